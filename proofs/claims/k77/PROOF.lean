import PyProof.Rows.All
import Wide.All
import OpenK.AllK
import Wide.FinOn
import HandS.ForMost
import HandS.More
import HandS.OwnEq
import HandS.IsInst
import HandS.WordsExc
import HandS.Defaults
import HandS.SortKw
import KE.SortData
import KE.SortKeyHeap
import HandS.StrMore
import HandS.Walk
import HandS.Style
import KE.KDictPairs
import HandS.HeadHook1
import HandS.HeadHook2
import HandS.HeadHook3
import HandS.HeadHook4
import Wide.Once
import KE.KStateDown
import Lean
import HandS.Head0
import HandS.Head1
import HandS.Head2
import HandS.Head3
import HandS.HeadEnd
import KE.DataEq
import PyProof.ReprRoads
import KE.KLam
import HandS.Lambda
import HandS.NestedK
import HandS.TryOnly
import PyProof.ReprLen
import HandS.DictComp
import HandS.ForExc
import HandS.TupAny
import PyProof.StrBlock2
import HandS.EndTab
import PySem.Challenge.RW_frontparts_k77_whole_benches_by_own_rows
set_option Elab.async false
set_option linter.all false
set_option maxRecDepth 100000
set_option maxHeartbeats 2000000
/-! == and != of an instance by an own __eq__, whatever stands at the right -/
namespace Fp
open PySem PySem.Spec PyProof.Rows PySem.SeqAt
section
variable {M : Model} {prog : Program} {w : World} {A : Around} {E : Value → Shared → Prop} {s : Shared} {K : PySem.W.Frag} {x C f : Addr} {ox : Obj} {od : Option Obj} {b tb : Value}
theorem ifBound_objNe {args : List Value} {Q : Option Value → Shared → Prop} (X : K.In s.heap) (I : PySem.W.InstAt s.heap x ox C od) (hs : PySem.W.findIn K (.ref C) "__ne__" = some (some (.builtin "object.__ne__")))
    (h : wpAny M A (call (.builtin "object.__ne__") (.ref x :: args)) (fun v => Q (some v)) E s) : wpAny M A (callSpecialIfBound? (.ref x) "__ne__" args) Q E s := by
  simp only [callSpecialIfBound?, bindSpecialIfBound?]
  refine wpAny_holding (wpAny_bind (wpAny_bind (wpAny_bind (I.type.here ((PySem.W.looks_findIn X hs).here ?_)))))
  refine wpAny_bind (wpAny_askSetting (wpAny_ite ?_))
  have fin : wpAny M A (call (.builtin "object.__ne__") ([.ref x] ++ args) >>= fun v => pure (some v)) Q E s := wpAny_bind (wpAny_mono h (fun v s' h' => wpAny_pure h') fun _ _ h' => h')
  split
  · exact wpAny_bind (wpAny_of_eq (F.cmp_object.ne.bind _) (wpAny_pure (by exact fin)))
  · exact wpAny_tryCatch (wpAny_bind (wpAny_of_eq (F.cmp_object.ne.bind _) (wpAny_pure (by exact fin))))
theorem entry_ne {Q : Fin → Shared → Prop} (hu : A.units < cLine) (X : K.In s.heap) (I : PySem.W.InstAt s.heap x ox C od) (hs : PySem.W.findIn K (.ref C) "__eq__" = some (some (.ref f))) (hf : PySem.W.isFn K (.ref f) = true)
    (hcall : wpAny (model prog w) A (call (.ref f) [.ref x, b]) (fun v s' => ∃ r, v = .bool r ∧ Q (.done (.ret (.bool (!r)))) s') E s) :
    wpAny (model prog w) A (Builtin.«object.__ne__» ⟨[.ref x, b], []⟩) Q E s := by
  unfold Builtin.«object.__ne__»
  repeat (first
    | with_reducible refine wpAny_cRoomFor hu ?_
    | (refine wpAny_bind (m := callSpecialIfBound? (.ref x) (Str.ofString "__eq__") [b])
        (PySem.W.ifBound_K X I hs hf (wpAny_mono hcall (fun r s' hr => by
          obtain ⟨b, rfl, hq⟩ := hr
          repeat (first | exact hq | exact wpAny_pure hq | exact wpAny_truthy_bool hq | (refine wpAny_bind (m := truthy (.bool _)) (wpAny_truthy_bool ?_)) | wp_step)) fun _ _ e => e)))
    | wp_step)
theorem cmpNe_K {Q : Value → Shared → Prop} (hu : A.units + 1 < cLine) (X : K.In s.heap) (I : PySem.W.InstAt s.heap x ox C od) (hb : PySem.W.Looks (model prog w) s.heap (typeOf b) tb) (hn : PySem.W.notFirst K C tb = true)
    (hne : PySem.W.findIn K (.ref C) "__ne__" = some (some (.builtin "object.__ne__"))) (hs : PySem.W.findIn K (.ref C) "__eq__" = some (some (.ref f))) (hf : PySem.W.isFn K (.ref f) = true) (hm : PySem.W.mroIn K C (.type "object") = some true)
    (h : wpAny (model prog w) A.in1 (call (.ref f) [.ref x, b]) (fun v s' => ∃ r, v = .bool r ∧ Q (.bool (!r)) s') E s) : wpAny (model prog w) A (richCompare .NotEq (.ref x) b) Q E s := by
  have one : wpAny (model prog w) A (tryCompare (.ref x) "__ne__" b) (fun r s' => ∃ v, r = some v ∧ Q v s') E s := by
    unfold tryCompare
    refine wpAny_bind (ifBound_objNe X I hne ?_)
    refine wpAny_call (codeAny_call_builtin F.cmp_object.ne.plain F.cmpEntry_ne (PySem.W.check_slot F.cmpKind_ne F.cmpSplit_ne (I.type.andThen (PySem.W.looks_mroIn X hm)) (F.cmpArgs_ne _ _)
      (entry_ne (A := A.in1) (show A.in1.units < cLine from hu) X I hs hf (wpAny_mono h (fun v s' hv => ?_) fun _ _ e => e))))
    obtain ⟨r, rfl, hq⟩ := hv
    exact ⟨r, rfl, wpAny_pure ⟨_, rfl, hq⟩⟩
  unfold richCompare
  simp only [oneThing_ref]
  refine wpAny_holding (wpAny_bind (wpAny_cRoomFor (Nat.lt_of_succ_lt hu) ?_))
  rw [show cmpInfo .NotEq = (("!=", "__ne__", "__ne__") : String × Str × Str) from rfl]
  dsimp only
  refine wpAny_bind (I.type.here (wpAny_bind (hb.here ?_)))
  split
  · rename_i q
    have e : PySem.W.subIn K tb (.ref C) = some false := by
      rcases Bool.or_eq_true_iff.mp hn with e | e
      · rw [beq_iff_eq.mp e] at q; simp at q
      · exact beq_iff_eq.mp e
    refine wpAny_bind ((PySem.W.looks_subIn X e).here ?_)
    simp only [Bool.false_eq_true, if_false]
    refine wpAny_bind (wpAny_mono one (fun r s' z => ?_) fun _ _ e => e)
    obtain ⟨v, rfl, hq⟩ := z
    exact wpAny_pure hq
  · refine wpAny_bind (wpAny_pure ?_)
    simp only [Bool.false_eq_true, if_false]
    refine wpAny_bind (wpAny_mono one (fun r s' z => ?_) fun _ _ e => e)
    obtain ⟨v, rfl, hq⟩ := z
    exact wpAny_pure hq
end
end Fp
namespace L2
open PySem PySem.Spec PyProof.Rows
def rOwnEq (K : PySem.W.Frag) (C : Addr) (sp : Sp) : R2 := fun x y H Q => ∃ a dx fs t, x = .ref a ∧ H a = some (.ins C dx fs) ∧ TyX K H y t ∧ PySem.W.notFirst K C t = true ∧ sp [x, y] H (fun v H' => ∃ r, v = .bl r ∧ Q (.bl r) H') (fun _ _ _ => False)
def rOwnNe (K : PySem.W.Frag) (C : Addr) (sp : Sp) : R2 := fun x y H Q => ∃ a dx fs t, x = .ref a ∧ H a = some (.ins C dx fs) ∧ TyX K H y t ∧ PySem.W.notFirst K C t = true ∧ sp [x, y] H (fun v H' => ∃ r, v = .bl r ∧ Q (.bl (!r)) H') (fun _ _ _ => False)
section
variable {X : Cx} {C f : Addr} {fd : FuncData} {ps : List Str} {sp : Sp} {n : Nat}
theorem op_ownEq (F : FnOk X.prog X.w X.K X.mg X.base CX0 n f fd ps sp) (hs : PySem.W.findIn X.K (.ref C) "__eq__" = some (some (.ref f))) (hf : PySem.W.isFn X.K (.ref f) = true) (hb : Binds X.K fd ps []) (hr : Room n X.A) :
    OpR X (compareOp .Eq) (rOwnEq X.K C sp) := by
  intro pins s σ H x y v u Q I rx ry hq
  obtain ⟨a, dx, fs, t, rfl, ha, ty, hn, hsp⟩ := hq
  cases rx
  obtain ⟨mA, J, _⟩ := ins_get I.hok ha
  obtain ⟨od, J, _⟩ := J.look
  obtain ⟨P, Z, p, _⟩ := kit_of I ry ty
  obtain ⟨m, hF⟩ := I.fr
  show wpAny (model X.prog X.w) X.A (richCompare .Eq _ u) (EP X pins σ Q) X.xe s
  refine PySem.W.cmp_K (op := .Eq) (tb := t) hr.units0 hF I.ok.mod.kin J (Z.ty _ _ I.kIn p) hn hs hf ?_
  have hl := F.len _ _ _ _ hsp
  have r2 : Vals [V.ref a, y] [Value.ref a, u] := .cons rfl (.cons ry .nil)
  refine wpAny_call (codeAny_mono (F.run X.A X.stack s H ⟨[.ref a, u], []⟩ [.ref a, u] [.ref a, y] _ (fun _ _ _ => False) hr I.env0 (by
    have := hb s [.ref a, u] I.kIn (by simpa using hl)
    simpa using this) r2 hsp) fun r s' hq => ?_)
  cases r with
  | error e => exact pass0 pins σ H s e s' I hq
  | ok fl =>
    cases fl with
    | ret w =>
      obtain ⟨z, H', I', rz, r, ez, q⟩ := I.after hq
      subst ez
      cases rz
      exact ⟨.bl r, H', I', rfl, q⟩
    | next => exact False.elim hq
    | brk => exact False.elim hq
    | cont => exact False.elim hq
theorem op_ownNe (F : FnOk X.prog X.w X.K X.mg X.base CX0 n f fd ps sp) (hne : PySem.W.findIn X.K (.ref C) "__ne__" = some (some (.builtin "object.__ne__"))) (hs : PySem.W.findIn X.K (.ref C) "__eq__" = some (some (.ref f))) (hf : PySem.W.isFn X.K (.ref f) = true)
    (hm : PySem.W.mroIn X.K C (.type "object") = some true) (hb : Binds X.K fd ps []) (hr : Room (n + 1) X.A) :
    OpR X (compareOp .NotEq) (rOwnNe X.K C sp) := by
  intro pins s σ H x y v u Q I rx ry hq
  obtain ⟨a, dx, fs, t, rfl, ha, ty, hn, hsp⟩ := hq
  cases rx
  obtain ⟨mA, J, _⟩ := ins_get I.hok ha
  obtain ⟨od, J, _⟩ := J.look
  obtain ⟨P, Z, p, _⟩ := kit_of I ry ty
  show wpAny (model X.prog X.w) X.A (richCompare .NotEq _ u) (EP X pins σ Q) X.xe s
  have hu : X.A.units + 1 < cLine := hr.in1.units0
  refine Fp.cmpNe_K (tb := t) hu I.kIn J (Z.ty _ _ I.kIn p) hn hne hs hf hm ?_
  have hl := F.len _ _ _ _ hsp
  have r2 : Vals [V.ref a, y] [Value.ref a, u] := .cons rfl (.cons ry .nil)
  refine wpAny_call (codeAny_mono (F.run X.A.in1 X.stack s H ⟨[.ref a, u], []⟩ [.ref a, u] [.ref a, y] _ (fun _ _ _ => False) hr.in1 I.env0.in1 (by
    have := hb s [.ref a, u] I.kIn (by simpa using hl)
    simpa using this) r2 hsp) fun r s' hq => ?_)
  cases r with
  | error e => exact pass0 pins σ H s e s' I hq
  | ok fl =>
    cases fl with
    | ret w =>
      obtain ⟨z, H', I', rz, r, ez, q⟩ := I.after hq
      subst ez
      cases rz
      exact ⟨r, rfl, .bl (!r), H', I', rfl, q⟩
    | next => exact False.elim hq
    | brk => exact False.elim hq
    | cont => exact False.elim hq
end
end L2

set_option Elab.async false
set_option linter.all false
set_option maxRecDepth 100000
set_option maxHeartbeats 2000000
/-! sorted(d, key=rank_of) of a dict of texts; sorted of tuples of an int and a text -/
namespace Fp
open PySem PySem.W PySem.Spec PyProof.Rows
/-- a word's rank -/
def rk (w : Str) : PyData := .tuple [.int (-(w.length : Int)), .str w]
def leR : Str → Str → Bool := dataLe false rk
def rkA (p : Pos) : Arguments := { posonlyargs := [], args := [{ arg := "word", annotation := none, pos := p }], vararg := none, kwonlyargs := [], kw_defaults := [], kwarg := none, defaults := [] }
def rkB (p1 p2 p3 p4 p5 p6 p7 : Pos) : List Stmt := [.Return (some (.Tuple [.UnaryOp .USub (.Call (.Name "len" p1) [.Name "word" p2] [] p3) p4, .Name "word" p5] 0 p6)) p7]
def rkS : Scope := { kind := .function, names := [(PySem.Str.ofString "word", .local), (PySem.Str.ofString "len", .globalImplicit)], isGenerator := false, isCoroutine := false, more := [] }
theorem ldC {M : Model} {s : Shared} {name : Str} {scope : Scope} {L a : Addr} {cd : Value} {m : Str → Option Value} {x : Str} {pos : Pos} {v : Value} {Q : Value → Shared → Prop} {A : Around} {E : Value → Shared → Prop} (hn : s.heap.Ns L m) (hv : m x = some v) (h : Q v s)
    (hk : scope.kind = .function := by rfl) (hl : (envOfC name scope L a cd).kindOf x = some .local := by rfl) (hd : (x == ("__debug__" : Str)) = false := by decide) :
    wpAny M A (eval (.Name x pos) (envOfC name scope L a cd)) Q E s := wpAny_Name (wpAny_loadName_local hk hl hn hv h) hd
section
variable {prog : Program} {w : World} {A : Around} {E : Value → Shared → Prop} {s : Shared} {K : Frag} {mg : Str → Option Value} {base : Heap} {fR : Addr} {fd : FuncData} {p0 p1 p2 p3 p4 p5 p6 p7 : Pos}
theorem rank_call (F : L2.FunD K "rank_of" "rank_of" (rkA p0) (rkB p1 p2 p3 p4 p5 p6 p7) rkS [] [] fR fd) (Mo : L2.Mod K mg base) (kb : ∀ b o, base.get? b = some o → s.heap.get? b = some o) (hlen : mg "len" = none) (hroom : A.depth + 1 < recursionLimit)
    {w0 : Str} {t : Tok} (hw : w0.length ≤ sizeLine) : wpAny (model prog w) A (call (.ref fR) [.str w0 t]) (KeyPure (rk w0) s) E s := by
  obtain ⟨oc, od, dV, kV, doc, pm, an, cdv, ct, osl, rfl, lk, hcd, hD, _⟩ := F.ex
  obtain rfl : dV = .none := by
    rcases hD with ⟨_, e⟩ | ⟨e, _⟩
    · exact e
    · exact absurd rfl e
  have X : K.In s.heap := Mo.kin.keeps kb
  refine wpAny_call (Att.call_fn (binds := [("word", .str w0 t)]) X (Mo.nolimit.keeps kb) lk hcd (Nat.lt_of_succ_lt hroom) (BindsTo.of_eq (by first | rfl | with_unfolding_all rfl)) (by first | rfl | decide | with_unfolding_all rfl) (fun s₁ IC => ?_) rfl rfl rfl)
  obtain ⟨h₁, tk₁, rfl⟩ := IC.toInCall.same
  have k : ∀ b o, s.heap.get? b = some o → h₁.get? b = some o := IC.toInCall.keep
  have hn := IC.toInCall.ns
  obtain ⟨mb, b1, b2⟩ := Mo.blt
  show wpAny _ _ (execs _ _) _ _ _
  refine wpAny_execs_cons (wpAny_Return_some (wpAny_Tuple_spliced ?_))
  show wpAny _ _ (spliced ((false, eval _ _) :: backTo p6 (starEach [_] _))) _ _ _
  refine Calls.spliced_cons (wpAny_UnaryOp ?_)
  refine wpAny_Call_Name_kw (Calls.Name_function_global rfl rfl (Calls.loadGlobal_builtin (Mo.glob.keeps fun b o e => k b o (kb b o e)) hlen (b1.keeps fun b o e => k b o (kb b o e)) ((b2 "len" (by decide)).trans boot_len) ?_) (by decide))
  refine callWith_builtin1 (spliced_more (ldC (v := .str w0 t) hn (by first | rfl | with_unfolding_all rfl | kernel_rfl) (spliced_none ?_))) rfl rfl
  have hs : sizeLine = 16777216 := sizeLine_eq
  have hl63 := L2.line63
  refine len_str (by omega) (neg_int ?_)
  show wpAny _ _ (spliced ((false, eval _ _) :: backTo p6 (starEach [] _))) _ _ _
  refine Calls.spliced_cons (ldC (v := .str w0 t) hn (by first | rfl | with_unfolding_all rfl | kernel_rfl) (Calls.spliced_nil ?_))
  refine ⟨by show 2 ≤ sizeLine; rw [sizeLine_eq]; decide, ?_⟩
  refine ⟨_, _, rfl, fun b o e => Heap.get?_push_of_some _ (k b o e), ?_⟩
  exact Reads.tuple (Heap.get?_push_size _ rfl) rfl rfl (by
    first
    | exact ReadsAll.cons (Reads.int _ _) (ReadsAll.cons (Reads.str _ _) ReadsAll.nil)
    | (have := ReadsAll.cons (h := Heap.push h₁ _) (Reads.int (-(w0.length : Int)) _) (ReadsAll.cons (Reads.str w0 t) ReadsAll.nil); simpa using this))
end
theorem alike_rk (a b : Str) : alike (rk a) (rk b) = true := by simp [rk, alike, alikeAll]
theorem rk_all (ws : List Str) : AllAlike (ws.map rk) := AllAlike.of alike_rk
theorem rk_sortable (ws : List Str) : Sortable (ws.map rk) := Sortable.tuples fun _ => ⟨_, _, rfl⟩
theorem rk_depth (w : Str) : (rk w).depth ≤ 2 := by simp [rk, PyData.depth, PyData.depthAll]
theorem vals_strs : ∀ {us : List Value} {ws : List Str}, EachIs (fun v w => ∃ t, v = Value.str w t) us ws → L2.Vals (ws.map L2.V.str) us
  | _, _, .nil => .nil
  | _, _, .cons h t => .cons h (vals_strs t)
theorem strs_each : ∀ {us : List Value} {ks : List Str}, us.length = ks.length → (∀ (j : Nat) (v : Value), us[j]? = some v → ∃ (x : Str) (t : Tok), ks[j]? = some x ∧ v = Value.str x t) → EachIs (fun v w => ∃ t, v = Value.str w t) us ks
  | [], [], _, _ => .nil
  | u :: us, k :: ks, hl, h => by
    obtain ⟨x, t, e1, e2⟩ := h 0 u rfl
    have e1' : k = x := Option.some.inj e1
    subst e1'
    refine .cons ⟨t, e2⟩ (strs_each (by simpa using hl) fun j v e => ?_)
    obtain ⟨x, t, a, b⟩ := h (j + 1) v (by simpa using e)
    exact ⟨x, t, by simpa using a, b⟩
  | [], _ :: _, hl, _ => by simp at hl
  | _ :: _, [], hl, _ => by simp at hl
/-- a pair of an int and a text, at an address -/
abbrev IS : Type := Addr × Int × Str
def enIS (p : IS) : PyData := .tuple [.int p.2.1, .str p.2.2]
def leIS : IS → IS → Bool := dataLe false enIS
theorem is_all (ws : List IS) : AllAlike (ws.map enIS) := AllAlike.of fun a b => by simp [enIS, alike, alikeAll]
theorem is_sortable (ws : List IS) : Sortable (ws.map enIS) := Sortable.tuples fun _ => ⟨_, _, rfl⟩
theorem is_depth (w : IS) : (enIS w).depth ≤ 2 := by simp [enIS, PyData.depth, PyData.depthAll]
theorem refs_each : ∀ {ps : List IS} {us : List Value}, L2.Vals (ps.map fun p => L2.V.ref p.1) us → EachIs (fun v p => v = Value.ref p.1) us ps
  | [], _, h => by cases h; exact .nil
  | p :: ps, _, h => by
    cases h with
    | cons r t => exact .cons r (refs_each t)
theorem each_refs : ∀ {us : List Value} {ps : List IS}, EachIs (fun v p => v = Value.ref p.1) us ps → L2.Vals (ps.map fun p => L2.V.ref p.1) us
  | _, _, .nil => .nil
  | _, _, .cons h t => .cons h (each_refs t)
end Fp
namespace L2
open PySem PySem.Spec PyProof.Rows
def rSortRk (fR : Addr) : List V → List V → Hp → VK → Prop := fun vs zs H Q => ∃ (a : Addr) (kvs : List (Key × V)) (ws : List Str), vs = [.ref a] ∧ zs = [.ref fR] ∧ Rd H a (.dK kvs) ∧ kvs.map (·.1) = ws.map Sum.inr ∧ (∀ w ∈ ws, w.length ≤ sizeLine) ∧
  ∀ p, H p = none → Q (.ref p) (upd H p (.lst ((ws.mergeSort Fp.leR).map V.str)))
section
variable {X : Cx} {fR : Addr} {fd : FuncData} {p0 p1 p2 p3 p4 p5 p6 p7 : Pos}
/-- sorted(d, key=rank_of) -/
theorem cr_sortRk (hcalm : X.calm = true) (F : FunD X.K "rank_of" "rank_of" (Fp.rkA p0) (Fp.rkB p1 p2 p3 p4 p5 p6 p7) Fp.rkS [] [] fR fd) (hlen : X.mg "len" = none) (hr : Room 1 X.A) : CallRK X (.builtin "sorted") [Str.ofString "key"] (rSortRk fR) := by
  intro pins s σ H vs zs us ws Q I r rz h
  obtain ⟨a, kvs, ks, rfl, rfl, hd, hks, hwl, q⟩ := h
  obtain rfl := Vals.ref1 r
  obtain ⟨w1, rfl, e1⟩ := vals1 rz
  obtain rfl : w1 = Value.ref fR := e1
  obtain ⟨z, lo, vs, rel, dd⟩ := dk_rd I.hok hd
  obtain ⟨ep, hat⟩ := dd.dictAt
  have hkeys : vs.map (·.1) = ks.map Sum.inr := rel.keys.symm.trans hks
  have hl : vs.length = ks.length := by
    have e := congrArg List.length hkeys
    rw [List.length_map, List.length_map] at e
    exact e
  have hlk : kvs.length = ks.length := by
    have e := congrArg List.length hks
    rw [List.length_map, List.length_map] at e
    exact e
  have h16 : vs.length ≤ sizeLine := by rw [hl, ← hlk]; exact z
  refine PyProof.Rows.call_function_entry_kw PyProof.Rows.kind_sorted PyProof.Rows.plain_sorted PyProof.Rows.entry_sorted (PyProof.Rows.ksk_s1 _ _) ?_
  unfold Builtin.«sorted»
  refine wpAny_bind (m := checkCount "sorted" 1 1 _) (wpAny_pure ?_)
  refine wpAny_bind (PySem.W.kdu_collect (A := X.A.in1) (PySem.W.kdl_dict (knd := mixKind X.prog X.w) (kvs := vs) (ep := ep) lo) (I.ok.hd hcalm) hat h16 fun h' tk acc hk hacc => ?_)
  have hal : acc.toList.length = ks.length := by rw [Array.length_toList, hacc.1, hl]
  have hS : PySem.W.EachIs (fun v w => ∃ t, v = Value.str w t) acc.toList ks := Fp.strs_each hal fun j v e => by
    obtain ⟨k, x, e1, e2⟩ := hacc.2 j v (by rw [← Array.getElem?_toList]; exact e)
    have e3 : (vs.map (·.1))[j]? = some k := by rw [List.getElem?_map, e1]; all_goals rfl
    rw [hkeys, List.getElem?_map] at e3
    cases e4 : ks[j]? with
    | none => rw [e4] at e3; cases e3
    | some y =>
      rw [e4] at e3
      have e5 : Sum.inr y = k := Option.some.inj e3
      subst e5
      obtain ⟨t, ev⟩ := Value.isStrOf_shape (x := y) (v := v) e2
      exact ⟨y, t, rfl, ev⟩
  have I1 : Inv X pins σ H { s with heap := h', toks := tk } := I.kept hk
  refine wpAny_bind (wpAny_newList ?_ (by rw [hal, ← hlk]; exact z))
  have hoL : (h'.push (seqObj "list" acc.toList.toArray 0)).get? h'.objs.size = some (seqObj "list" acc.toList.toArray 0) := Heap.get?_push_size _ rfl
  show wpAny _ _ _ _ _ { s with heap := h'.push (seqObj "list" acc.toList.toArray 0), toks := tk }
  refine wpAny_bind (wpAny_holding (wpAny_call_entry_kw slot_list_sort ⟨_, hoL, rfl⟩ entry_list_sort ?body (PyProof.Rows.ksk_l1 _ _)))
  case body =>
    show wpAny (model X.prog X.w) X.A.in1.in1 (Builtin.«list.sort» ⟨[.ref h'.objs.size], [(Str.ofString "key", .ref fR)]⟩) _ _ _
    rw [ksk_t1]
    have hun := hr.un
    have hdp := hr.dp
    refine PySem.W.keyH_tree (kz := ks.map Fp.rk) (s := { s with heap := h'.push (seqObj "list" acc.toList.toArray 0), toks := tk }) hoL (by rw [List.length_map]; exact hal.symm) (by rw [hal, ← hlk]; exact z) (Fp.rk_all ks) (Fp.rk_sortable ks)
      (fun d hd => by
        obtain ⟨w, _, rfl⟩ := List.mem_map.mp hd
        have := Fp.rk_depth w
        show X.A.units + 1 + 1 + _ < _
        omega)
      (PySem.W.keyH_turns (s := { s with heap := h'.push (seqObj "list" acc.toList.toArray 0), toks := tk }) hS fun v x hR hx h tk2 kp => ?_) fun h2 tk2 out c kp hD ko => ⟨_, rfl, ?_⟩
    · obtain ⟨t, rfl⟩ := hR
      refine Fp.rank_call (s := { s with heap := h, toks := tk2 }) F I.ok.mod (fun b o e => ?_) hlen ?_ (hwl x hx)
      · have e1 : s.heap.get? b = some o := I.bk b o e
        have e2 : h'.get? b = some o := hk b o e1
        exact kp b o (Nat.ne_of_lt (Heap.lt_size e2)) (Heap.get?_push_of_some _ e2)
      · show X.A.depth + 1 < _
        omega
    · have ev := PySem.W.keyedOut_each Fp.rk ko hS
      have hlen2 : ((ks.mergeSort Fp.leR).map V.str).length ≤ sizeLine := by
        rw [List.length_map, List.length_mergeSort, ← hlk]
        exact z
      refine wpAny_pure ⟨_, rfl, .ref h'.objs.size, upd H h'.objs.size (.lst ((ks.mergeSort Fp.leR).map V.str)), I1.laid (t' := tk2) (fun b u e => kp b u (Nat.ne_of_lt (Heap.lt_size e)) (Heap.get?_push_of_some _ e)) (Nat.le_refl _)
        (show ObjOk X.prog X.w _ _ _ (.lst ((ks.mergeSort Fp.leR).map V.str)) from ⟨hlen2, out, c, Fp.vals_strs ev, hD⟩), rfl, q _ (I1.hok.fresh (Nat.le_refl _))⟩
/-- sorted(xs), xs a list of pairs of an int and a text -/
def rSortIS (K : PySem.W.Frag) : List V → Hp → VK → Prop := fun vs H Q => ∃ (a : Addr) (ps : List Fp.IS), vs = [.ref a] ∧ SqL K H a (ps.map fun p => V.ref p.1) ∧ (∀ p ∈ ps, H p.1 = some (.tup [.int p.2.1, .str p.2.2])) ∧
  ∀ p, H p = none → Q (.ref p) (upd H p (.lst ((ps.mergeSort Fp.leIS).map fun p => V.ref p.1)))
theorem cr_sortIS (hr : Room 1 X.A) : CallR X (.builtin "sorted") (rSortIS X.K) := by
  intro pins s σ H vs us Q I r h
  obtain ⟨a, ps, rfl, hs, hp, q⟩ := h
  obtain rfl := Vals.ref1 r
  obtain ⟨its, rv, hl, hz⟩ := I.list hs
  have hE := Fp.refs_each rv
  have hl2 : its.length = ps.length := by rw [← rv.length, List.length_map]
  have hun := hr.un
  have hz2 : ps.length ≤ sizeLine := by rw [List.length_map] at hz; exact hz
  refine PySem.W.sorted_data (enc := Fp.enIS) (bs := ps) hl.isList hE ?_ (Fp.is_all ps) (Fp.is_sortable ps) hz2 (fun b hb => ?_) fun out hlo ho => ?_
  · refine PySem.W.EachIs.of_zip hl2 fun z hz => ?_
    obtain ⟨v, p⟩ := z
    have hv : v = Value.ref p.1 := PySem.W.EachIs.zip hE (v, p) hz
    have hm : p ∈ ps := (List.of_mem_zip hz).2
    obtain ⟨_, its2, r2, o, h1, h2, n, h3⟩ := I.hok _ _ (hp p hm)
    obtain ⟨u1, u2, rfl, ⟨t1, e1⟩, ⟨t2, e2⟩⟩ := vals2 r2
    subst hv e1 e2
    exact ⟨_, Reads.tuple h1 h2 h3 (ReadsAll.cons (Reads.int _ _) (ReadsAll.cons (Reads.str _ _) ReadsAll.nil))⟩
  · have := Fp.is_depth b
    omega
  · obtain ⟨ep, he'⟩ := PyProof.Rows.sortedAll_at s.heap its out.toArray
    have hlen : ((ps.mergeSort Fp.leIS).map fun p => V.ref p.1).length ≤ sizeLine := by
      rw [List.length_map, List.length_mergeSort]
      exact hz2
    exact ⟨.ref _, upd H (s.heap.objs.size + 1) (.lst ((ps.mergeSort Fp.leIS).map fun p => V.ref p.1)), I.laid (t' := s.toks) (fun _ _ => PyProof.Rows.sortedAll_old) (Nat.le_succ _) ⟨hlen, out, ep, Fp.each_refs ho, he'⟩, rfl, q _ (I.hok.fresh (Nat.le_succ _))⟩
end
end L2

set_option Elab.async false
set_option linter.all false
set_option maxRecDepth 100000
set_option maxHeartbeats 2000000
/-! what is shared: a def by its name, heaps, tables of words -/
namespace L2
open PySem PySem.Spec PyProof.Rows
/-- a tuple as tuple() makes it: no dict of its own -/
def PlainTup (o : Obj) : Prop := o.cls = .type "tuple" ∧ o.dict = none ∧ ∃ (its : Array Value) (n : Nat), o.data = .seq its n
section
variable {X : Cx}
/-- tuple(l): a new tuple, its object known -/
theorem call_tupleF : CallR X (.type "tuple") (fun xs H Q => ∃ p ys, xs = [.ref p] ∧ SqL X.K H p ys ∧ ∀ l o, H l = none → PlainTup o → Q (.ref l) (upd H l (.frz o (.tup ys)))) := by
  intro pins s σ H xs us Q I r h
  obtain ⟨p, ys, rfl, hq, q⟩ := h
  obtain ⟨u, rfl, rx⟩ := vals1 r
  cases rx
  obtain ⟨its, r', pl, hz⟩ := I.list hq
  have hlen := r'.length
  refine call_tuple_list pl.isList (fun h' kp => ?_) (by simp only [List.size_toArray] <;> omega)
  have I1 : Inv X pins σ H { s with heap := h' } := I.kept (t' := s.toks) kp
  have I2 : Inv X pins σ (upd H h'.objs.size (.frz { cls := .type "tuple", data := .seq its.toArray } (.tup ys))) { s with heap := h'.push { cls := .type "tuple", data := .seq its.toArray } } :=
    I1.laid (t' := s.toks) (fun b o e => Heap.get?_push_of_some _ e) (Nat.le_refl _) (show ObjOk X.prog X.w _ _ _ (.frz _ (.tup ys)) from ⟨Heap.get?_push_size _ rfl, hz, its, r', IsTup.new _ _⟩)
  exact ⟨.ref h'.objs.size, _, I2, rfl, q _ _ (I1.hok.fresh (Nat.le_refl _)) ⟨rfl, rfl, _, _, rfl⟩⟩
theorem refs_get : ∀ {ps : List Addr} {us : List Value}, Vals (ps.map V.ref) us → us = ps.map Value.ref
  | [], _, h => by cases h; rfl
  | p :: ps, _, h => by
    cases h with
    | cons r t =>
      cases r
      rw [refs_get t] <;> rfl
/-- dict(t), t such a tuple of pairs -/
theorem call_dictPT (hcalm : X.calm = true) : CallR X (.type "dict") (fun xs H Q => ∃ (a : Addr) (o : Obj) (ps : List Addr) (kvs : List (Key × V)), xs = [.ref a] ∧ H a = some (.frz o (.tup (ps.map V.ref))) ∧ PlainTup o ∧ Paired (fun p kv => SqT X.K H p [kV kv.1, kv.2]) ps kvs ∧
    ∀ p, H p = none → Q (.ref p) (upd H p (.dK (mergeK [] kvs)))) := by
  intro pins s σ H xs us Q I r q
  obtain ⟨a, o, ps, kvs, ex, hq, ⟨pc, pd, pits, pn, pdat⟩, hp, q⟩ := q
  subst ex
  obtain ⟨u, eu, rx⟩ := vals1 r
  subst eu
  cases rx
  obtain ⟨ho, hz, its, rv, o2, ho2, hc2, n2, hdat2⟩ := (show ObjOk X.prog X.w H s.heap a (.frz o (.tup (ps.map V.ref))) from I.hok a _ hq)
  rw [ho] at ho2
  cases ho2
  have ei := refs_get rv
  subst ei
  rw [List.length_map] at hz
  obtain ⟨prs, rel, hl, hpr⟩ := pairs_of I hp
  -- the keys' values
  have hks : ∃ us : List Value, us.length = prs.length ∧ ∀ (j : Nat) (q : Key × Value), prs[j]? = some q → ∃ (b : Addr) (u : Value), us[j]? = some u ∧ ps[j]? = some b ∧ IsTup s.heap b #[u, q.2] ∧ keyIs q.1 u = true := by
    have hall : ∀ j : Nat, j < prs.length → ∃ u : Value, ∀ q, prs[j]? = some q → ∃ b, ps[j]? = some b ∧ IsTup s.heap b #[u, q.2] ∧ keyIs q.1 u = true := fun j hj => by
      obtain ⟨b, u, e1, e2, e3⟩ := hpr j prs[j] (List.getElem?_eq_getElem hj)
      refine ⟨u, fun q e => ?_⟩
      rw [List.getElem?_eq_getElem hj] at e
      cases e
      exact ⟨b, e1, e2, e3⟩
    let f : Nat → Value := fun j => if hj : j < prs.length then Classical.choose (hall j hj) else .none
    refine ⟨(List.range prs.length).map f, by simp, fun j q e => ?_⟩
    have hj : j < prs.length := (List.getElem?_eq_some_iff.mp e).1
    have hsp := Classical.choose_spec (hall j hj) q e
    obtain ⟨b, e1, e2, e3⟩ := hsp
    refine ⟨b, f j, by simp [hj], e1, ?_, ?_⟩
    · show IsTup s.heap b #[f j, q.2]
      have : f j = Classical.choose (hall j hj) := dif_pos hj
      rw [this]
      exact e2
    · have : f j = Classical.choose (hall j hj) := dif_pos hj
      rw [this]
      exact e3
  obtain ⟨us, hus, hk⟩ := hks
  let vps : List (Value × Value) := us.zip (prs.map (·.2))
  have hvl : vps.length = prs.length := by simp [vps, hus]
  have hget : ∀ j k v, vps[j]? = some (k, v) → ∃ q : Key × Value, prs[j]? = some q ∧ q.2 = v ∧ us[j]? = some k := fun j k v e => by
    obtain ⟨e1, e2⟩ := List.getElem?_zip_eq_some.mp e
    rw [List.getElem?_map] at e2
    cases e3 : prs[j]? with
    | none => rw [e3] at e2; cases e2
    | some q =>
      rw [e3] at e2
      exact ⟨q, e3, Option.some.inj e2, e1⟩
  refine PySem.call_dict_pairs (knd := mixKind X.prog X.w) (kvs := prs) (PairArg.tuple a (ps.map Value.ref).toArray (fun j => ps.getD j 0) vps) (I.ok.hd hcalm) ⟨⟨o, n2, ho, pc, pd, hdat2⟩, ?_, fun j k v e => ?_⟩ ⟨hvl.symm, fun j k v e => ?_⟩ (by rw [hvl, hl]; exact hz) fun h' tk hd' kp => ?_
  · rw [hvl, hl]
    simp
  · obtain ⟨q, e1, e2, e3⟩ := hget j k v e
    obtain ⟨b, u, f1, f2, f3, f4⟩ := hk j q e1
    rw [e3] at f1
    cases f1
    subst e2
    refine ⟨?_, .inl ?_⟩
    · simp [List.getD, f2]
    · show IsTup s.heap (ps.getD j 0) #[k, q.2]
      rw [show ps.getD j 0 = b by simp [List.getD, f2]]
      exact f3
  · obtain ⟨q, e1, e2, e3⟩ := hget j k v e
    obtain ⟨b, u, f1, f2, f3, f4⟩ := hk j q e1
    rw [e3] at f1
    cases f1
    exact ⟨q.1, by rw [e1, ← e2], f4⟩
  · have hm : (s.heap.objs.size == sysModules) = false := beq_eq_false_iff_ne.mpr (Nat.ne_of_gt I.big)
    have hlen : (mergeK [] kvs).length ≤ sizeLine := by
      refine Nat.le_trans (length_mergeK kvs []) ?_
      rw [List.length_nil, Nat.zero_add, rel.length, hl]
      exact hz
    exact ⟨.ref s.heap.objs.size, upd H s.heap.objs.size (.dK (mergeK [] kvs)), I.laid (t' := tk) (fun b o e => kp b o (by simp) e) (Nat.le_refl _) (show ObjOk X.prog X.w _ _ _ (.dK (mergeK [] kvs)) from ⟨hlen, hm, merged [] prs, KV.merge rel .nil, hd'⟩), rfl, q _ (I.hok.fresh (Nat.le_refl _))⟩
end
end L2
namespace Fp
open PySem PySem.Spec PyProof.Rows L2
/-! ### a def of the top by its name -/
structure Ok (P : Program) (w : World) (K : PySem.W.Frag) (mg : Str → Option Value) (base : Heap) (k : Nat) (x : Str) (ps : List Str) (sp : Sp) : Prop where
  ex : ∃ fd, FnOk P w K mg base CX0 k (He.ga K x) fd ps sp ∧ Binds K fd ps []
  g : mg x = some (.ref (He.ga K x))
  kp : PySem.W.keepIn K (.ref (He.ga K x)) = true
theorem pc {X : Cx} {x : Str} {p pos : Pos} {e : Expr} {es : List Expr} {t : TA} {k : Nat} {ps : List Str} {sp : Sp} (G : Ok X.prog X.w X.K X.mg X.base k x ps sp) (hr : Room k X.A) (ha : PA X (e :: es) t) (hg : Gl X x := by rfl) (hdb : (x == ("__debug__" : Str)) = false := by decide)
    (he : starEach (e :: es) X.env = (false, eval e X.env) :: starEach es X.env := by rfl) (hpl : (backTo pos (starEach es X.env)).any (·.1) = false := by rfl) : PE X (.Call (.Name x p) (e :: es) [] pos) (tCall sp [] E0 t) := by
  obtain ⟨fd, F, b⟩ := G.ex
  exact pe_call F hr hg G.g G.kp b .nil pass0 ha hdb he hpl
theorem Ok.mono {P : Program} {w : World} {K : PySem.W.Frag} {mg : Str → Option Value} {base : Heap} {j k : Nat} {x : Str} {ps : List Str} {sp : Sp} (G : Ok P w K mg base j x ps sp) (h : j ≤ k) : Ok P w K mg base k x ps sp := by
  obtain ⟨fd, F, b⟩ := G.ex
  exact ⟨⟨fd, F.mono h, b⟩, G.g, G.kp⟩
/-! ### heaps -/
/-- all that was tracked stays, but for a -/
def But (a : Addr) (H H' : Hp) : Prop := ∀ b o, H b = some o → b ≠ a → H' b = some o
theorem But.refl (a : Addr) (H : Hp) : But a H H := fun _ _ e _ => e
theorem But.trans {a : Addr} {H H1 H2 : Hp} (x : But a H H1) (y : But a H1 H2) : But a H H2 := fun b o e n => y b o (x b o e n) n
theorem But.of {a : Addr} {H H' : Hp} (s : Same H H') : But a H H' := fun b o e _ => s b o e
theorem But.free {a : Addr} {H H' : Hp} (x : But a H H') (hs : ∃ o, H' a = some o) {l : Addr} (e : H' l = none) : H l = none := by
  cases q : H l with
  | none => rfl
  | some o =>
    by_cases hl : l = a
    · obtain ⟨u, hu⟩ := hs
      rw [hl] at e
      rw [hu] at e
      cases e
    · rw [x l o q hl] at e
      cases e
theorem same_upd {H : Hp} {p : Addr} {o : HO} (h : H p = none) : Same H (upd H p o) := fun b x e => by
  rw [upd_ne (ne_of_none e h)]
  exact e
theorem but_upd {H : Hp} {p : Addr} {o : HO} : But p H (upd H p o) := fun b x e n => by
  rw [upd_ne n]
  exact e
theorem lock_back {H : Hp} {d : Addr} {o u : HO} (h : H d = some o) (e : o = u) : upd (upd H d u) d o = H := by
  subst e
  rw [upd_upd]
  funext b
  by_cases hb : b = d
  · rw [hb, upd_same, h]
  · rw [upd_ne hb]
/-! ### tables: words with numbers, in the order in which they were put in -/
abbrev Tb : Type := List (Str × Int)
def kv (l : Tb) : List (Key × V) := l.map fun p => ((Sum.inr p.1 : Key), V.int p.2)
def num (l : Tb) (x : Str) : Int := ((l.find? fun p => decide (p.1 = x)).map (·.2)).getD 0
def has (l : Tb) (x : Str) : Bool := l.any fun p => decide (p.1 = x)
def putT (l : Tb) (x : Str) (n : Int) : Tb := if has l x then l.map (fun p => if p.1 = x then (p.1, n) else p) else l ++ [(x, n)]
def dropT (l : Tb) (x : Str) : Tb := l.filter fun p => decide (p.1 ≠ x)
theorem kv_len (l : Tb) : (kv l).length = l.length := List.length_map _
theorem kv_keys (l : Tb) : (kv l).map (·.1) = (l.map (·.1)).map Sum.inr := by
  unfold kv
  rw [List.map_map, List.map_map]
  rfl
theorem valV_kv (x : Str) : ∀ l : Tb, valV (kv l) (Sum.inr x : Key) = (l.find? fun p => decide (p.1 = x)).map fun p => V.int p.2
  | [] => rfl
  | p :: r => by
    have ih := valV_kv x r
    by_cases e : p.1 = x
    · rw [List.find?_cons_of_pos (by simpa using e)]
      exact valV_pos (p := ((Sum.inr p.1 : Key), V.int p.2)) (by rw [e])
    · rw [List.find?_cons_of_neg (by simpa using e)]
      exact (valV_neg (p := ((Sum.inr p.1 : Key), V.int p.2)) (fun z => e (Sum.inr.inj z))).trans ih
theorem has_find (l : Tb) (x : Str) : has l x = (l.find? fun p => decide (p.1 = x)).isSome := by
  unfold has
  induction l with
  | nil => rfl
  | cons p r ih =>
    by_cases e : p.1 = x
    · rw [List.find?_cons_of_pos (by simpa using e), List.any_cons]
      simp [e]
    · rw [List.find?_cons_of_neg (by simpa using e), List.any_cons, ih]
      simp [e]
theorem valV_yes {l : Tb} {x : Str} (h : has l x = true) : valV (kv l) (Sum.inr x : Key) = some (.int (num l x)) := by
  rw [valV_kv]
  rw [has_find] at h
  unfold num
  cases e : l.find? fun p => decide (p.1 = x) with
  | none => rw [e] at h; cases h
  | some p => rfl
theorem valV_no {l : Tb} {x : Str} (h : has l x = false) : valV (kv l) (Sum.inr x : Key) = none ∧ num l x = 0 := by
  rw [valV_kv]
  rw [has_find] at h
  unfold num
  cases e : l.find? fun p => decide (p.1 = x) with
  | none => exact ⟨rfl, rfl⟩
  | some p => rw [e] at h; cases h
theorem putK_kv (l : Tb) (x : Str) (n : Int) : putK (kv l) (Sum.inr x : Key) (.int n) = kv (putT l x n) := by
  have ea : ((kv l).any fun q => decide (q.1 = (Sum.inr x : Key))) = has l x := by
    unfold kv has
    rw [List.any_map]
    congr 1
    funext p
    by_cases e : p.1 = x
    · simp [e]
    · simp [e]
  unfold putK putT
  rw [ea]
  cases has l x with
  | true =>
    rw [if_pos rfl, if_pos rfl]
    unfold kv
    rw [List.map_map, List.map_map]
    apply List.map_congr_left
    intro p _
    by_cases e : p.1 = x
    · simp [e]
    · simp [e]
  | false =>
    rw [if_neg Bool.false_ne_true, if_neg Bool.false_ne_true]
    unfold kv
    rw [List.map_append]
    rfl
theorem dropK_kv (l : Tb) (x : Str) : dropK (kv l) (Sum.inr x : Key) = kv (dropT l x) := by
  unfold dropK dropT kv
  rw [List.filter_map]
  congr 1
  apply List.filter_congr
  intro p _
  by_cases e : p.1 = x
  · simp [e]
  · simp [e]
/-- a table of distinct words -/
def Nd (l : Tb) : Prop := (l.map (·.1)).Nodup
theorem has_iff {l : Tb} {x : Str} : has l x = true ↔ x ∈ l.map (·.1) := by
  unfold has
  rw [List.any_eq_true]
  constructor
  · rintro ⟨p, hp, e⟩
    exact List.mem_map.mpr ⟨p, hp, of_decide_eq_true e⟩
  · intro h
    obtain ⟨p, hp, e⟩ := List.mem_map.mp h
    exact ⟨p, hp, decide_eq_true e⟩
theorem putT_keys {l : Tb} {x : Str} {n : Int} : (putT l x n).map (·.1) = if has l x then l.map (·.1) else l.map (·.1) ++ [x] := by
  unfold putT
  cases has l x with
  | true =>
    rw [if_pos rfl, if_pos rfl, List.map_map]
    apply List.map_congr_left
    intro p _
    by_cases e : p.1 = x
    · simp [e]
    · simp [e]
  | false =>
    rw [if_neg Bool.false_ne_true, if_neg Bool.false_ne_true, List.map_append]
    rfl
theorem nd_put {l : Tb} (h : Nd l) (x : Str) (n : Int) : Nd (putT l x n) := by
  unfold Nd
  rw [putT_keys]
  cases e : has l x with
  | true => exact h
  | false =>
    rw [if_neg Bool.false_ne_true, List.nodup_append]
    refine ⟨h, by simp, fun a ha b hb => ?_⟩
    have : b = x := by simpa using hb
    subst this
    rintro rfl
    rw [has_iff.mpr ha] at e
    cases e
theorem nd_drop {l : Tb} (h : Nd l) (x : Str) : Nd (dropT l x) := by
  unfold Nd dropT
  exact (List.Sublist.map _ List.filter_sublist).nodup h
theorem mem_put {l : Tb} {x : Str} {n : Int} {p : Str × Int} (h : p ∈ putT l x n) : p = (x, n) ∨ p ∈ l := by
  unfold putT at h
  cases e : has l x with
  | true =>
    rw [e, if_pos rfl] at h
    obtain ⟨q, hq, e2⟩ := List.mem_map.mp h
    by_cases e3 : q.1 = x
    · rw [if_pos e3, e3] at e2
      exact .inl e2.symm
    · rw [if_neg e3] at e2
      exact .inr (e2 ▸ hq)
  | false =>
    rw [e, if_neg Bool.false_ne_true] at h
    rcases List.mem_append.mp h with h | h
    · exact .inr h
    · exact .inl (by simpa using h)
theorem len_put (l : Tb) (x : Str) (n : Int) : (putT l x n).length ≤ l.length + 1 := by
  unfold putT
  split
  · rw [List.length_map]
    omega
  · rw [List.length_append]
    simp
end Fp

set_option Elab.async false
set_option linter.all false
set_option maxRecDepth 100000
set_option maxHeartbeats 2000000
/-! a written dict from ints to tuples of ints, read: d[k] -/
namespace L2
open PySem PySem.Spec PyProof.Rows
abbrev WTab : Type := List (Int × List Int)
def intsB : List Int → List Value → Bool
  | [], [] => true
  | n :: ns, .int i _ :: vs => decide (i = n) && intsB ns vs
  | _, _ => false
theorem intsB_vals : ∀ (ns : List Int) (vs : List Value), intsB ns vs = true → Vals (ns.map V.int) vs
  | [], [], _ => .nil
  | n :: ns, .int i t :: vs, h => by
    have h' : (decide (i = n) && intsB ns vs) = true := h
    rw [Bool.and_eq_true] at h'
    have e : i = n := of_decide_eq_true h'.1
    subst e
    exact .cons ⟨t, rfl⟩ (intsB_vals ns vs h'.2)
def tupO (K : PySem.W.Frag) (a : Addr) (ns : List Int) : Bool := match K.lookup a with
  | some o => (match o.cls, o.data with
    | .type c, .seq its _ => decide (c = "tuple") && (decide (its.size ≤ sizeLine) && intsB ns its.toList)
    | _, _ => false)
  | none => false
theorem tupO_sq {K : PySem.W.Frag} {a : Addr} {ns : List Int} (h : tupO K a ns = true) (H : Hp) : SqT K H a (ns.map V.int) := by
  unfold tupO at h
  split at h
  · rename_i o ho
    split at h
    · rename_i c its n hc hd
      simp only [Bool.and_eq_true, decide_eq_true_eq] at h
      obtain ⟨h1, h2, h3⟩ := h
      subst h1
      exact .inr ⟨o, its, n, ho, hc, hd, h2, intsB_vals _ _ h3⟩
    · cases h
  · cases h
def entB (K : PySem.W.Frag) : WTab → List DictEntry → Bool
  | [], [] => true
  | p :: r, e :: es => (match e.key, e.val with
    | .int i _, .ref a => decide (i = p.1) && (decide (e.hash = hashInt p.1) && tupO K a p.2)
    | _, _ => false) && entB K r es
  | _, _ => false
def wdB (K : PySem.W.Frag) (a : Addr) (t : WTab) : Bool := match K.lookup a with
  | some o => (match o.cls, o.dict, o.data with
    | .type c, none, .dict es _ => decide (c = "dict") && (decide (o.slots.size = 0) && entB K t es.toList)
    | _, _, _ => false)
  | none => false
theorem entB_pairs {P : Program} {w : World} {K : PySem.W.Frag} : ∀ (t : WTab) (es : List DictEntry), entB K t es = true → ∃ vs : List (Key × Value), Pairs (mixKind P w) es vs ∧ (∀ e ∈ es, ∃ k, (mixKind P w).is k e.key = true ∧ e.hash = (mixKind P w).hash k) ∧
    Paired (fun (p : Int × List Int) (v : Key × Value) => v.1 = Sum.inl p.1 ∧ ∃ b, v.2 = .ref b ∧ tupO K b p.2 = true) t vs
  | [], [], _ => ⟨[], .nil, (fun e he => by cases he), .nil⟩
  | p :: r, e :: es, h => by
    unfold entB at h
    rw [Bool.and_eq_true] at h
    obtain ⟨h1, h2⟩ := h
    obtain ⟨vs, a1, a2, a3⟩ := entB_pairs r es h2
    obtain ⟨eh, ek, ev⟩ := e
    cases ek with
    | int i tk =>
      cases ev with
      | ref a =>
        have h1 : (decide (i = p.1) && (decide (eh = hashInt p.1) && tupO K a p.2)) = true := h1
        simp only [Bool.and_eq_true, decide_eq_true_eq] at h1
        obtain ⟨e1, e2, e3⟩ := h1
        subst e1
        refine ⟨(Sum.inl p.1, .ref a) :: vs, .cons (keyIs_int _ tk) rfl a1, (fun x hx => ?_), .cons ⟨rfl, a, rfl, e3⟩ a3⟩
        rcases List.mem_cons.mp hx with rfl | hx
        · exact ⟨Sum.inl p.1, keyIs_int _ tk, e2⟩
        · exact a2 x hx
      | _ => exact absurd h1 (by simp)
    | _ => exact absurd h1 (by simp)
theorem pairs_find {K : PySem.W.Frag} {t : WTab} {vs : List (Key × Value)} (h : Paired (fun (p : Int × List Int) (v : Key × Value) => v.1 = Sum.inl p.1 ∧ ∃ b, v.2 = .ref b ∧ tupO K b p.2 = true) t vs) (hn : (t.map (·.1)).Nodup) :
    (vs.map (·.1)).Nodup ∧ (∀ v ∈ vs, ∃ p ∈ t, v.1 = Sum.inl p.1) ∧ ∀ p ∈ t, ∃ b, valueAt vs (Sum.inl p.1 : Key) = some (.ref b) ∧ tupO K b p.2 = true := by
  induction h with
  | nil => exact ⟨List.nodup_nil, fun v hv => (by cases hv), fun p hp => (by cases hp)⟩
  | @cons p v t vs e r ih =>
    have hn' : (p.1 :: t.map (·.1)).Nodup := hn
    obtain ⟨n1, n2⟩ := List.nodup_cons.mp hn'
    obtain ⟨i1, i2, i3⟩ := ih n2
    obtain ⟨e1, b, e2, e3⟩ := e
    refine ⟨?_, fun u hu => ?_, fun q hq => ?_⟩
    · rw [List.map_cons, List.nodup_cons]
      refine ⟨fun hm => ?_, i1⟩
      obtain ⟨u, hu, eu⟩ := List.mem_map.mp hm
      obtain ⟨q, hq, eq⟩ := i2 u hu
      have : (Sum.inl q.1 : Key) = Sum.inl p.1 := (eq.symm.trans eu).trans e1
      injection this with this
      exact n1 (this ▸ List.mem_map.mpr ⟨q, hq, rfl⟩)
    · rcases List.mem_cons.mp hu with rfl | hu
      · exact ⟨p, List.mem_cons_self, e1⟩
      · obtain ⟨q, hq, eq⟩ := i2 u hu
        exact ⟨q, List.mem_cons_of_mem _ hq, eq⟩
    · unfold valueAt
      rcases List.mem_cons.mp hq with rfl | hq
      · rw [List.find?_cons_of_pos (by simp [e1])]
        exact ⟨b, by rw [Option.map_some, e2], e3⟩
      · obtain ⟨b', h1, h2⟩ := i3 q hq
        refine ⟨b', ?_, h2⟩
        rw [List.find?_cons_of_neg]
        · exact h1
        · rw [e1]
          intro z
          have z' : (Sum.inl p.1 : Key) = Sum.inl q.1 := of_decide_eq_true z
          injection z' with z'
          exact n1 (z' ▸ List.mem_map.mpr ⟨q, hq, rfl⟩)
/-- d[k], d written -/
def tWD (K : PySem.W.Frag) (t : WTab) (ta tb : TE) : TE := fun σ H Q => ta σ H fun x H1 => tb σ H1 fun y H2 => ∃ (a : Addr) (k : Int) (ns : List Int), x = .ref a ∧ wdB K a t = true ∧ y = .int k ∧ (k, ns) ∈ t ∧ ∀ b, tupO K b ns = true → Q (.ref b) H2
theorem pe_wd {X : Cx} {t : WTab} {o i : Expr} {ta tb : TE} {pos : Pos} (hn : (t.map (·.1)).Nodup) (ho : PE X o ta) (hi : PE X i tb) (hs : NoSl i) : PE X (.Subscript o i pos) (tWD X.K t ta tb) := by
  constructor
  intro pins s σ H Q I h
  refine subD_of PySem.F.slot_dict_getitem.lookup hs (thn (ho.run pins s σ H _ I h) fun u s1 ⟨x, H1, I1, rx, q1⟩ => thn (hi.run pins s1 σ H1 _ I1 q1) fun iv s2 ⟨y, H2, I2, ry, a, k, ns, ex, hw, ey, hm, q2⟩ => ?_)
  subst ex
  subst ey
  cases rx
  obtain ⟨tk, rfl⟩ := ry
  unfold wdB at hw
  split at hw
  · rename_i ob hob
    split at hw
    · rename_i c es ep hc hd hdat
      simp only [Bool.and_eq_true, decide_eq_true_eq] at hw
      obtain ⟨w1, w2, w3⟩ := hw
      subst w1
      obtain ⟨vs, p1, p2, p3⟩ := entB_pairs (P := X.prog) (w := X.w) t es.toList w3
      obtain ⟨f1, f2, f3⟩ := pairs_find p3 hn
      obtain ⟨b, v1, v2⟩ := f3 (k, ns) hm
      have dd : s2.heap.DictOf (mixKind X.prog X.w) a vs := ⟨ob, es, ep, I2.kIn a ob hob, ⟨hc, hd, Array.eq_empty_of_size_eq_zero w2⟩, hdat, fun e he => p2 e (Array.mem_def.mp he), p1, f1⟩
      exact ⟨dd.typeIs, wpAny_getItem_of (knd := mixKind X.prog X.w) (k := (Sum.inl k : Key)) (keyIs_int k tk) dd.mapOf v1 ⟨.ref b, H2, I2.tok _, rfl, q2 b v2⟩⟩
    · cases hw
  · cases hw
end L2

set_option Elab.async false
set_option linter.all false
set_option maxRecDepth 100000
set_option maxHeartbeats 2000000
namespace Fp
open PySem PySem.Spec PyProof.Rows L2
def top (i : Nat) : Stmt := PySem.Challenge.pw_frontparts_k77_whole_benches_by_own_rows.main.body.getD i (.Pass ⟨0, 0, 0, 0⟩)
abbrev s__wall : Stmt := top 0
abbrev s_is_integer : Stmt := top 16
abbrev s_is_from_to : Stmt := top 17
abbrev s_is_clock : Stmt := top 18
abbrev s_check_clock : Stmt := top 19
abbrev s_is_word : Stmt := top 20
abbrev s_rank_of : Stmt := top 22
abbrev s_tidied : Stmt := top 23
abbrev s_added : Stmt := top 24
abbrev s_multiplied : Stmt := top 25
abbrev s_Bag__init__ : Stmt := inClass (top 29) 0
abbrev s_Bag__eq__ : Stmt := inClass (top 29) 1
abbrev s_are_words : Stmt := top 30
abbrev s_is_short_word : Stmt := top 31
abbrev s_pairs_of : Stmt := top 32
abbrev s_bag_of : Stmt := top 33
abbrev s_table_of : Stmt := top 34
abbrev s_is_bag : Stmt := top 35
abbrev s_are_bags : Stmt := top 36
abbrev s_check_clocks : Stmt := top 37
abbrev s_check_bags : Stmt := top 38
abbrev s_behind : Stmt := top 39
abbrev s_all_behind : Stmt := top 40
abbrev s_Bench__init__ : Stmt := inClass (top 43) 0
abbrev s_Benchlay : Stmt := inClass (top 43) 1
abbrev s_Benchtake : Stmt := inClass (top 43) 2
abbrev s_Benchput : Stmt := inClass (top 43) 3
abbrev s_Benchfuse : Stmt := inClass (top 43) 4
abbrev s_Benchcleave : Stmt := inClass (top 43) 5
abbrev s_Benchbags : Stmt := inClass (top 43) 6
abbrev s_Benchwhole : Stmt := inClass (top 43) 7
abbrev s_Benchback : Stmt := inClass (top 43) 8
abbrev s_Benchdepth : Stmt := inClass (top 43) 9
abbrev s_Benchcopy : Stmt := inClass (top 43) 10
abbrev s_Benchtrying : Stmt := inClass (top 43) 11
abbrev s_Bench_become : Stmt := inClass (top 43) 12
abbrev s_Bench_check_place : Stmt := inClass (top 43) 13
abbrev s_Bench_check_room : Stmt := inClass (top 43) 14
abbrev s__law_tape : Stmt := top 45
abbrev s__law_pick : Stmt := top 46
abbrev s__law_word : Stmt := top 47
abbrev s__law_sparse : Stmt := top 48
abbrev s__law_clock : Stmt := top 49
abbrev s__law_letters : Stmt := top 50
abbrev s__law_pairs : Stmt := top 51
abbrev s__law_sum : Stmt := top 52
abbrev s__law_product : Stmt := top 53
abbrev s__law_size : Stmt := top 54
abbrev s__law_is : Stmt := top 55
abbrev s__law_is_told : Stmt := top 56
abbrev s__law_room : Stmt := top 57
abbrev s__law_many : Stmt := top 58
abbrev s_law : Stmt := top 59
abbrev FnP (K : PySem.W.Frag) (x q : Str) (st : Stmt) (f : Addr) (fd : FuncData) : Prop := FunD K x q (defArgs st) (defBody st) (defScope st) [] [] f fd
def d__wall : He.DefD := ⟨("_wall", none), "_wall", "_wall", defArgs s__wall, defBody s__wall, defScope s__wall, [], []⟩
def d_is_integer : He.DefD := ⟨("is_integer", none), "is_integer", "is_integer", defArgs s_is_integer, defBody s_is_integer, defScope s_is_integer, [], []⟩
def d_is_from_to : He.DefD := ⟨("is_from_to", none), "is_from_to", "is_from_to", defArgs s_is_from_to, defBody s_is_from_to, defScope s_is_from_to, [], []⟩
def d_is_clock : He.DefD := ⟨("is_clock", none), "is_clock", "is_clock", defArgs s_is_clock, defBody s_is_clock, defScope s_is_clock, [], []⟩
def d_check_clock : He.DefD := ⟨("check_clock", none), "check_clock", "check_clock", defArgs s_check_clock, defBody s_check_clock, defScope s_check_clock, [], []⟩
def d_is_word : He.DefD := ⟨("is_word", none), "is_word", "is_word", defArgs s_is_word, defBody s_is_word, defScope s_is_word, [], []⟩
def d_rank_of : He.DefD := ⟨("rank_of", none), "rank_of", "rank_of", defArgs s_rank_of, defBody s_rank_of, defScope s_rank_of, [], []⟩
def d_tidied : He.DefD := ⟨("tidied", none), "tidied", "tidied", defArgs s_tidied, defBody s_tidied, defScope s_tidied, [], []⟩
def d_added : He.DefD := ⟨("added", none), "added", "added", defArgs s_added, defBody s_added, defScope s_added, [], []⟩
def d_multiplied : He.DefD := ⟨("multiplied", none), "multiplied", "multiplied", defArgs s_multiplied, defBody s_multiplied, defScope s_multiplied, [], []⟩
def d_Bag__init__ : He.DefD := ⟨("Bag", some "__init__"), "__init__", "Bag.__init__", defArgs s_Bag__init__, defBody s_Bag__init__, defScope s_Bag__init__, [], []⟩
def d_Bag__eq__ : He.DefD := ⟨("Bag", some "__eq__"), "__eq__", "Bag.__eq__", defArgs s_Bag__eq__, defBody s_Bag__eq__, defScope s_Bag__eq__, [], []⟩
def d_are_words : He.DefD := ⟨("are_words", none), "are_words", "are_words", defArgs s_are_words, defBody s_are_words, defScope s_are_words, [], []⟩
def d_is_short_word : He.DefD := ⟨("is_short_word", none), "is_short_word", "is_short_word", defArgs s_is_short_word, defBody s_is_short_word, defScope s_is_short_word, [], []⟩
def d_pairs_of : He.DefD := ⟨("pairs_of", none), "pairs_of", "pairs_of", defArgs s_pairs_of, defBody s_pairs_of, defScope s_pairs_of, [], []⟩
def d_bag_of : He.DefD := ⟨("bag_of", none), "bag_of", "bag_of", defArgs s_bag_of, defBody s_bag_of, defScope s_bag_of, [], []⟩
def d_table_of : He.DefD := ⟨("table_of", none), "table_of", "table_of", defArgs s_table_of, defBody s_table_of, defScope s_table_of, [], []⟩
def d_is_bag : He.DefD := ⟨("is_bag", none), "is_bag", "is_bag", defArgs s_is_bag, defBody s_is_bag, defScope s_is_bag, [], []⟩
def d_are_bags : He.DefD := ⟨("are_bags", none), "are_bags", "are_bags", defArgs s_are_bags, defBody s_are_bags, defScope s_are_bags, [], []⟩
def d_check_clocks : He.DefD := ⟨("check_clocks", none), "check_clocks", "check_clocks", defArgs s_check_clocks, defBody s_check_clocks, defScope s_check_clocks, [], []⟩
def d_check_bags : He.DefD := ⟨("check_bags", none), "check_bags", "check_bags", defArgs s_check_bags, defBody s_check_bags, defScope s_check_bags, [], []⟩
def d_behind : He.DefD := ⟨("behind", none), "behind", "behind", defArgs s_behind, defBody s_behind, defScope s_behind, [], []⟩
def d_all_behind : He.DefD := ⟨("all_behind", none), "all_behind", "all_behind", defArgs s_all_behind, defBody s_all_behind, defScope s_all_behind, [], []⟩
def d_Bench__init__ : He.DefD := ⟨("Bench", some "__init__"), "__init__", "Bench.__init__", defArgs s_Bench__init__, defBody s_Bench__init__, defScope s_Bench__init__, [], []⟩
def d_Benchlay : He.DefD := ⟨("Bench", some "lay"), "lay", "Bench.lay", defArgs s_Benchlay, defBody s_Benchlay, defScope s_Benchlay, [], []⟩
def d_Benchtake : He.DefD := ⟨("Bench", some "take"), "take", "Bench.take", defArgs s_Benchtake, defBody s_Benchtake, defScope s_Benchtake, [], []⟩
def d_Benchput : He.DefD := ⟨("Bench", some "put"), "put", "Bench.put", defArgs s_Benchput, defBody s_Benchput, defScope s_Benchput, [], []⟩
def d_Benchfuse : He.DefD := ⟨("Bench", some "fuse"), "fuse", "Bench.fuse", defArgs s_Benchfuse, defBody s_Benchfuse, defScope s_Benchfuse, [], []⟩
def d_Benchcleave : He.DefD := ⟨("Bench", some "cleave"), "cleave", "Bench.cleave", defArgs s_Benchcleave, defBody s_Benchcleave, defScope s_Benchcleave, [], []⟩
def d_Benchbags : He.DefD := ⟨("Bench", some "bags"), "bags", "Bench.bags", defArgs s_Benchbags, defBody s_Benchbags, defScope s_Benchbags, [], []⟩
def d_Benchwhole : He.DefD := ⟨("Bench", some "whole"), "whole", "Bench.whole", defArgs s_Benchwhole, defBody s_Benchwhole, defScope s_Benchwhole, [], []⟩
def d_Benchback : He.DefD := ⟨("Bench", some "back"), "back", "Bench.back", defArgs s_Benchback, defBody s_Benchback, defScope s_Benchback, [], []⟩
def d_Benchdepth : He.DefD := ⟨("Bench", some "depth"), "depth", "Bench.depth", defArgs s_Benchdepth, defBody s_Benchdepth, defScope s_Benchdepth, [], []⟩
def d_Benchcopy : He.DefD := ⟨("Bench", some "copy"), "copy", "Bench.copy", defArgs s_Benchcopy, defBody s_Benchcopy, defScope s_Benchcopy, [], []⟩
def d_Benchtrying : He.DefD := ⟨("Bench", some "trying"), "trying", "Bench.trying", defArgs s_Benchtrying, defBody s_Benchtrying, defScope s_Benchtrying, [], []⟩
def d_Bench_become : He.DefD := ⟨("Bench", some "_become"), "_become", "Bench._become", defArgs s_Bench_become, defBody s_Bench_become, defScope s_Bench_become, [], []⟩
def d_Bench_check_place : He.DefD := ⟨("Bench", some "_check_place"), "_check_place", "Bench._check_place", defArgs s_Bench_check_place, defBody s_Bench_check_place, defScope s_Bench_check_place, [], []⟩
def d_Bench_check_room : He.DefD := ⟨("Bench", some "_check_room"), "_check_room", "Bench._check_room", defArgs s_Bench_check_room, defBody s_Bench_check_room, defScope s_Bench_check_room, [], []⟩
def d__law_tape : He.DefD := ⟨("_law_tape", none), "_law_tape", "_law_tape", defArgs s__law_tape, defBody s__law_tape, defScope s__law_tape, [], []⟩
def d__law_pick : He.DefD := ⟨("_law_pick", none), "_law_pick", "_law_pick", defArgs s__law_pick, defBody s__law_pick, defScope s__law_pick, [], []⟩
def d__law_word : He.DefD := ⟨("_law_word", none), "_law_word", "_law_word", defArgs s__law_word, defBody s__law_word, defScope s__law_word, [], []⟩
def d__law_sparse : He.DefD := ⟨("_law_sparse", none), "_law_sparse", "_law_sparse", defArgs s__law_sparse, defBody s__law_sparse, defScope s__law_sparse, [], []⟩
def d__law_clock : He.DefD := ⟨("_law_clock", none), "_law_clock", "_law_clock", defArgs s__law_clock, defBody s__law_clock, defScope s__law_clock, [], []⟩
def d__law_letters : He.DefD := ⟨("_law_letters", none), "_law_letters", "_law_letters", defArgs s__law_letters, defBody s__law_letters, defScope s__law_letters, [], []⟩
def d__law_pairs : He.DefD := ⟨("_law_pairs", none), "_law_pairs", "_law_pairs", defArgs s__law_pairs, defBody s__law_pairs, defScope s__law_pairs, [], []⟩
def d__law_sum : He.DefD := ⟨("_law_sum", none), "_law_sum", "_law_sum", defArgs s__law_sum, defBody s__law_sum, defScope s__law_sum, [], []⟩
def d__law_product : He.DefD := ⟨("_law_product", none), "_law_product", "_law_product", defArgs s__law_product, defBody s__law_product, defScope s__law_product, [], []⟩
def d__law_size : He.DefD := ⟨("_law_size", none), "_law_size", "_law_size", defArgs s__law_size, defBody s__law_size, defScope s__law_size, [], []⟩
def d__law_is : He.DefD := ⟨("_law_is", none), "_law_is", "_law_is", defArgs s__law_is, defBody s__law_is, defScope s__law_is, [], []⟩
def d__law_is_told : He.DefD := ⟨("_law_is_told", none), "_law_is_told", "_law_is_told", defArgs s__law_is_told, defBody s__law_is_told, defScope s__law_is_told, [], []⟩
def d__law_room : He.DefD := ⟨("_law_room", none), "_law_room", "_law_room", defArgs s__law_room, defBody s__law_room, defScope s__law_room, [], []⟩
def d__law_many : He.DefD := ⟨("_law_many", none), "_law_many", "_law_many", defArgs s__law_many, defBody s__law_many, defScope s__law_many, [], []⟩
def d_law : He.DefD := ⟨("law", none), "law", "law", defArgs s_law, defBody s_law, defScope s_law, [], []⟩
def fn : List He.DefD := [d__wall, d_is_integer, d_is_from_to, d_is_clock, d_check_clock, d_is_word, d_rank_of, d_tidied, d_added, d_multiplied, d_Bag__init__, d_Bag__eq__, d_are_words, d_is_short_word, d_pairs_of, d_bag_of, d_table_of, d_is_bag, d_are_bags, d_check_clocks, d_check_bags, d_behind, d_all_behind, d_Bench__init__, d_Benchlay, d_Benchtake, d_Benchput, d_Benchfuse, d_Benchcleave, d_Benchbags, d_Benchwhole, d_Benchback, d_Benchdepth, d_Benchcopy, d_Benchtrying, d_Bench_become, d_Bench_check_place, d_Bench_check_room, d__law_tape, d__law_pick, d__law_word, d__law_sparse, d__law_clock, d__law_letters, d__law_pairs, d__law_sum, d__law_product, d__law_size, d__law_is, d__law_is_told, d__law_room, d__law_many, d_law]
def fa : List He.Fa := [.glo "_wall", .glo "is_integer", .glo "is_from_to", .glo "is_clock", .glo "check_clock", .glo "is_word", .glo "rank_of", .glo "tidied", .glo "added", .glo "multiplied", .glo "are_words", .glo "is_short_word", .glo "pairs_of", .glo "bag_of", .glo "table_of", .glo "is_bag", .glo "are_bags", .glo "check_clocks", .glo "check_bags", .glo "behind", .glo "all_behind", .glo "_law_tape", .glo "_law_pick", .glo "_law_word", .glo "_law_sparse", .glo "_law_clock", .glo "_law_letters", .glo "_law_pairs", .glo "_law_sum", .glo "_law_product", .glo "_law_size", .glo "_law_is", .glo "_law_is_told", .glo "_law_room", .glo "_law_many", .glo "law", .glo "BagError", .exc "BagError", .glo "BadBag", .glo "UnlikeClocks", .exc "UnlikeClocks", .glo "NoNumber", .exc "NoNumber", .glo "NoWord", .exc "NoWord", .glo "NoRow", .exc "NoRow", .glo "NoPlace", .exc "NoPlace", .glo "NoClock", .exc "NoClock", .glo "NoBag", .exc "NoBag", .glo "Full", .exc "Full", .glo "NothingDone", .exc "NothingDone", .glo "Bag", .cls "Bag", .mkr "Bag", .meth "Bag" "__eq__", .noat "Bag" "clock", .noat "Bag" "words", .glo "Bench", .cls "Bench", .mkr "Bench", .meth "Bench" "lay", .meth "Bench" "take", .meth "Bench" "put", .meth "Bench" "fuse", .meth "Bench" "cleave", .meth "Bench" "bags", .meth "Bench" "whole", .meth "Bench" "back", .meth "Bench" "depth", .meth "Bench" "copy", .meth "Bench" "trying", .meth "Bench" "_become", .meth "Bench" "_check_place", .meth "Bench" "_check_room", .noat "Bench" "_clock", .noat "Bench" "_row", .noat "Bench" "_past", .glo "CLOCKS", .str "LETTERS" "xyz", .int "MOST_WORDS" 300, .int "MOST_LETTERS" 12, .int "MOST_BAGS" 12, .free "all", .free "bool", .free "dict", .free "int", .free "isinstance", .free "len", .free "list", .free "max", .free "range", .free "repr", .free "sorted", .free "str", .free "tuple"]
def exl (K : PySem.W.Frag) : List Bool := [He.tupB K "CLOCKS" [.int 2, .int 3, .int 5, .int 7], decide (PySem.W.findIn K (.ref (He.ga K "Bag")) "__class__" = some (some (.builtin "object.__class__"))), decide (PySem.W.specialIn K (.builtin "object.__class__") "__get__" = some (some (.builtin "getset_descriptor.__get__"))), decide (PySem.W.takesIn K (.builtin "object.__class__") = some true), decide (PySem.W.mroIn K (He.ga K "Bag") (.type "object") = some true), decide (PySem.W.findIn K (.ref (He.ga K "Bag")) "__ne__" = some (some (.builtin "object.__ne__"))), decide (PySem.W.kitOne K (.ref (He.ga K "Bag")) (.ref (He.ga K "Bag")) = some true), PySem.W.notFirst K (He.ga K "Bag") (.type "NoneType"), decide (PySem.W.kitOne K (.type "NoneType") (.ref (He.ga K "Bag")) = some false), PySem.W.notFirst K (He.ga K "Bag") (.type "int"), decide (PySem.W.kitOne K (.type "int") (.ref (He.ga K "Bag")) = some false), PySem.W.notFirst K (He.ga K "Bag") (.type "bool"), decide (PySem.W.kitOne K (.type "bool") (.ref (He.ga K "Bag")) = some false), PySem.W.notFirst K (He.ga K "Bag") (.type "str"), decide (PySem.W.kitOne K (.type "str") (.ref (He.ga K "Bag")) = some false), PySem.W.notFirst K (He.ga K "Bag") (.type "dict"), decide (PySem.W.kitOne K (.type "dict") (.ref (He.ga K "Bag")) = some false), PySem.W.notFirst K (He.ga K "Bag") (.type "list"), decide (PySem.W.kitOne K (.type "list") (.ref (He.ga K "Bag")) = some false), PySem.W.notFirst K (He.ga K "Bag") (.type "tuple"), decide (PySem.W.kitOne K (.type "tuple") (.ref (He.ga K "Bag")) = some false), decide (PySem.W.exmOne K (.ref (He.ga K "BagError")) (.ref (He.ga K "BagError")) = some true), decide (PySem.W.exmOne K (.ref (He.ga K "UnlikeClocks")) (.ref (He.ga K "UnlikeClocks")) = some true), decide (PySem.W.exmOne K (.ref (He.ga K "NoNumber")) (.ref (He.ga K "NoNumber")) = some true), decide (PySem.W.exmOne K (.ref (He.ga K "NoWord")) (.ref (He.ga K "NoWord")) = some true), decide (PySem.W.exmOne K (.ref (He.ga K "NoRow")) (.ref (He.ga K "NoRow")) = some true), decide (PySem.W.exmOne K (.ref (He.ga K "NoPlace")) (.ref (He.ga K "NoPlace")) = some true), decide (PySem.W.exmOne K (.ref (He.ga K "NoClock")) (.ref (He.ga K "NoClock")) = some true), decide (PySem.W.exmOne K (.ref (He.ga K "NoBag")) (.ref (He.ga K "NoBag")) = some true), decide (PySem.W.exmOne K (.ref (He.ga K "Full")) (.ref (He.ga K "Full")) = some true), decide (PySem.W.exmOne K (.ref (He.ga K "NothingDone")) (.ref (He.ga K "NothingDone")) = some true)]
def ex (K : PySem.W.Frag) : Bool := (exl K).all id
/-- what the top has left -/
structure Top (K : PySem.W.Frag) (mg : Str → Option Value) : Prop where
  h : ∃ h : Heap, K.In h ∧ h.Ns mainGlobals mg
  c : He.SaysD fa fn K
  e : ex K = true
section
variable {K : PySem.W.Frag} {mg : Str → Option Value}
theorem Top.x (T : Top K mg) (i : Nat) {b : Bool} (h : (exl K)[i]? = some b := by rfl) : b = true := by
  have := List.all_eq_true.mp T.e b (List.mem_of_getElem? h)
  exact this
theorem g__wall (T : Top K mg) : mg "_wall" = some (.ref (He.ga K "_wall")) := by
  obtain ⟨h, X, G⟩ := T.h
  exact He.glo_ok X G (T.c.fact 0 (f := .glo "_wall") rfl)
theorem g_is_integer (T : Top K mg) : mg "is_integer" = some (.ref (He.ga K "is_integer")) := by
  obtain ⟨h, X, G⟩ := T.h
  exact He.glo_ok X G (T.c.fact 1 (f := .glo "is_integer") rfl)
theorem g_is_from_to (T : Top K mg) : mg "is_from_to" = some (.ref (He.ga K "is_from_to")) := by
  obtain ⟨h, X, G⟩ := T.h
  exact He.glo_ok X G (T.c.fact 2 (f := .glo "is_from_to") rfl)
theorem g_is_clock (T : Top K mg) : mg "is_clock" = some (.ref (He.ga K "is_clock")) := by
  obtain ⟨h, X, G⟩ := T.h
  exact He.glo_ok X G (T.c.fact 3 (f := .glo "is_clock") rfl)
theorem g_check_clock (T : Top K mg) : mg "check_clock" = some (.ref (He.ga K "check_clock")) := by
  obtain ⟨h, X, G⟩ := T.h
  exact He.glo_ok X G (T.c.fact 4 (f := .glo "check_clock") rfl)
theorem g_is_word (T : Top K mg) : mg "is_word" = some (.ref (He.ga K "is_word")) := by
  obtain ⟨h, X, G⟩ := T.h
  exact He.glo_ok X G (T.c.fact 5 (f := .glo "is_word") rfl)
theorem g_rank_of (T : Top K mg) : mg "rank_of" = some (.ref (He.ga K "rank_of")) := by
  obtain ⟨h, X, G⟩ := T.h
  exact He.glo_ok X G (T.c.fact 6 (f := .glo "rank_of") rfl)
theorem g_tidied (T : Top K mg) : mg "tidied" = some (.ref (He.ga K "tidied")) := by
  obtain ⟨h, X, G⟩ := T.h
  exact He.glo_ok X G (T.c.fact 7 (f := .glo "tidied") rfl)
theorem g_added (T : Top K mg) : mg "added" = some (.ref (He.ga K "added")) := by
  obtain ⟨h, X, G⟩ := T.h
  exact He.glo_ok X G (T.c.fact 8 (f := .glo "added") rfl)
theorem g_multiplied (T : Top K mg) : mg "multiplied" = some (.ref (He.ga K "multiplied")) := by
  obtain ⟨h, X, G⟩ := T.h
  exact He.glo_ok X G (T.c.fact 9 (f := .glo "multiplied") rfl)
theorem g_are_words (T : Top K mg) : mg "are_words" = some (.ref (He.ga K "are_words")) := by
  obtain ⟨h, X, G⟩ := T.h
  exact He.glo_ok X G (T.c.fact 10 (f := .glo "are_words") rfl)
theorem g_is_short_word (T : Top K mg) : mg "is_short_word" = some (.ref (He.ga K "is_short_word")) := by
  obtain ⟨h, X, G⟩ := T.h
  exact He.glo_ok X G (T.c.fact 11 (f := .glo "is_short_word") rfl)
theorem g_pairs_of (T : Top K mg) : mg "pairs_of" = some (.ref (He.ga K "pairs_of")) := by
  obtain ⟨h, X, G⟩ := T.h
  exact He.glo_ok X G (T.c.fact 12 (f := .glo "pairs_of") rfl)
theorem g_bag_of (T : Top K mg) : mg "bag_of" = some (.ref (He.ga K "bag_of")) := by
  obtain ⟨h, X, G⟩ := T.h
  exact He.glo_ok X G (T.c.fact 13 (f := .glo "bag_of") rfl)
theorem g_table_of (T : Top K mg) : mg "table_of" = some (.ref (He.ga K "table_of")) := by
  obtain ⟨h, X, G⟩ := T.h
  exact He.glo_ok X G (T.c.fact 14 (f := .glo "table_of") rfl)
theorem g_is_bag (T : Top K mg) : mg "is_bag" = some (.ref (He.ga K "is_bag")) := by
  obtain ⟨h, X, G⟩ := T.h
  exact He.glo_ok X G (T.c.fact 15 (f := .glo "is_bag") rfl)
theorem g_are_bags (T : Top K mg) : mg "are_bags" = some (.ref (He.ga K "are_bags")) := by
  obtain ⟨h, X, G⟩ := T.h
  exact He.glo_ok X G (T.c.fact 16 (f := .glo "are_bags") rfl)
theorem g_check_clocks (T : Top K mg) : mg "check_clocks" = some (.ref (He.ga K "check_clocks")) := by
  obtain ⟨h, X, G⟩ := T.h
  exact He.glo_ok X G (T.c.fact 17 (f := .glo "check_clocks") rfl)
theorem g_check_bags (T : Top K mg) : mg "check_bags" = some (.ref (He.ga K "check_bags")) := by
  obtain ⟨h, X, G⟩ := T.h
  exact He.glo_ok X G (T.c.fact 18 (f := .glo "check_bags") rfl)
theorem g_behind (T : Top K mg) : mg "behind" = some (.ref (He.ga K "behind")) := by
  obtain ⟨h, X, G⟩ := T.h
  exact He.glo_ok X G (T.c.fact 19 (f := .glo "behind") rfl)
theorem g_all_behind (T : Top K mg) : mg "all_behind" = some (.ref (He.ga K "all_behind")) := by
  obtain ⟨h, X, G⟩ := T.h
  exact He.glo_ok X G (T.c.fact 20 (f := .glo "all_behind") rfl)
theorem g__law_tape (T : Top K mg) : mg "_law_tape" = some (.ref (He.ga K "_law_tape")) := by
  obtain ⟨h, X, G⟩ := T.h
  exact He.glo_ok X G (T.c.fact 21 (f := .glo "_law_tape") rfl)
theorem g__law_pick (T : Top K mg) : mg "_law_pick" = some (.ref (He.ga K "_law_pick")) := by
  obtain ⟨h, X, G⟩ := T.h
  exact He.glo_ok X G (T.c.fact 22 (f := .glo "_law_pick") rfl)
theorem g__law_word (T : Top K mg) : mg "_law_word" = some (.ref (He.ga K "_law_word")) := by
  obtain ⟨h, X, G⟩ := T.h
  exact He.glo_ok X G (T.c.fact 23 (f := .glo "_law_word") rfl)
theorem g__law_sparse (T : Top K mg) : mg "_law_sparse" = some (.ref (He.ga K "_law_sparse")) := by
  obtain ⟨h, X, G⟩ := T.h
  exact He.glo_ok X G (T.c.fact 24 (f := .glo "_law_sparse") rfl)
theorem g__law_clock (T : Top K mg) : mg "_law_clock" = some (.ref (He.ga K "_law_clock")) := by
  obtain ⟨h, X, G⟩ := T.h
  exact He.glo_ok X G (T.c.fact 25 (f := .glo "_law_clock") rfl)
theorem g__law_letters (T : Top K mg) : mg "_law_letters" = some (.ref (He.ga K "_law_letters")) := by
  obtain ⟨h, X, G⟩ := T.h
  exact He.glo_ok X G (T.c.fact 26 (f := .glo "_law_letters") rfl)
theorem g__law_pairs (T : Top K mg) : mg "_law_pairs" = some (.ref (He.ga K "_law_pairs")) := by
  obtain ⟨h, X, G⟩ := T.h
  exact He.glo_ok X G (T.c.fact 27 (f := .glo "_law_pairs") rfl)
theorem g__law_sum (T : Top K mg) : mg "_law_sum" = some (.ref (He.ga K "_law_sum")) := by
  obtain ⟨h, X, G⟩ := T.h
  exact He.glo_ok X G (T.c.fact 28 (f := .glo "_law_sum") rfl)
theorem g__law_product (T : Top K mg) : mg "_law_product" = some (.ref (He.ga K "_law_product")) := by
  obtain ⟨h, X, G⟩ := T.h
  exact He.glo_ok X G (T.c.fact 29 (f := .glo "_law_product") rfl)
theorem g__law_size (T : Top K mg) : mg "_law_size" = some (.ref (He.ga K "_law_size")) := by
  obtain ⟨h, X, G⟩ := T.h
  exact He.glo_ok X G (T.c.fact 30 (f := .glo "_law_size") rfl)
theorem g__law_is (T : Top K mg) : mg "_law_is" = some (.ref (He.ga K "_law_is")) := by
  obtain ⟨h, X, G⟩ := T.h
  exact He.glo_ok X G (T.c.fact 31 (f := .glo "_law_is") rfl)
theorem g__law_is_told (T : Top K mg) : mg "_law_is_told" = some (.ref (He.ga K "_law_is_told")) := by
  obtain ⟨h, X, G⟩ := T.h
  exact He.glo_ok X G (T.c.fact 32 (f := .glo "_law_is_told") rfl)
theorem g__law_room (T : Top K mg) : mg "_law_room" = some (.ref (He.ga K "_law_room")) := by
  obtain ⟨h, X, G⟩ := T.h
  exact He.glo_ok X G (T.c.fact 33 (f := .glo "_law_room") rfl)
theorem g__law_many (T : Top K mg) : mg "_law_many" = some (.ref (He.ga K "_law_many")) := by
  obtain ⟨h, X, G⟩ := T.h
  exact He.glo_ok X G (T.c.fact 34 (f := .glo "_law_many") rfl)
theorem g_law (T : Top K mg) : mg "law" = some (.ref (He.ga K "law")) := by
  obtain ⟨h, X, G⟩ := T.h
  exact He.glo_ok X G (T.c.fact 35 (f := .glo "law") rfl)
theorem g_BagError (T : Top K mg) : mg "BagError" = some (.ref (He.ga K "BagError")) := by
  obtain ⟨h, X, G⟩ := T.h
  exact He.glo_ok X G (T.c.fact 36 (f := .glo "BagError") rfl)
theorem e_BagError (T : Top K mg) : PySem.W.excIn K (He.ga K "BagError") He.veBase "ValueError.__new__" = true ∧ PySem.W.keepIn K (.ref (He.ga K "BagError")) = true ∧ PySem.W.subIn K (.ref (He.ga K "BagError")) (.type "BaseException") = some true ∧ PySem.W.typeIn K (.ref (He.ga K "BagError")) = some (.type "type") := He.exc_ok (T.c.fact 37 (f := .exc "BagError") rfl)
theorem g_BadBag (T : Top K mg) : mg "BadBag" = some (.ref (He.ga K "BadBag")) := by
  obtain ⟨h, X, G⟩ := T.h
  exact He.glo_ok X G (T.c.fact 38 (f := .glo "BadBag") rfl)
theorem g_UnlikeClocks (T : Top K mg) : mg "UnlikeClocks" = some (.ref (He.ga K "UnlikeClocks")) := by
  obtain ⟨h, X, G⟩ := T.h
  exact He.glo_ok X G (T.c.fact 39 (f := .glo "UnlikeClocks") rfl)
theorem e_UnlikeClocks (T : Top K mg) : PySem.W.excIn K (He.ga K "UnlikeClocks") He.veBase "ValueError.__new__" = true ∧ PySem.W.keepIn K (.ref (He.ga K "UnlikeClocks")) = true ∧ PySem.W.subIn K (.ref (He.ga K "UnlikeClocks")) (.type "BaseException") = some true ∧ PySem.W.typeIn K (.ref (He.ga K "UnlikeClocks")) = some (.type "type") := He.exc_ok (T.c.fact 40 (f := .exc "UnlikeClocks") rfl)
theorem g_NoNumber (T : Top K mg) : mg "NoNumber" = some (.ref (He.ga K "NoNumber")) := by
  obtain ⟨h, X, G⟩ := T.h
  exact He.glo_ok X G (T.c.fact 41 (f := .glo "NoNumber") rfl)
theorem e_NoNumber (T : Top K mg) : PySem.W.excIn K (He.ga K "NoNumber") He.veBase "ValueError.__new__" = true ∧ PySem.W.keepIn K (.ref (He.ga K "NoNumber")) = true ∧ PySem.W.subIn K (.ref (He.ga K "NoNumber")) (.type "BaseException") = some true ∧ PySem.W.typeIn K (.ref (He.ga K "NoNumber")) = some (.type "type") := He.exc_ok (T.c.fact 42 (f := .exc "NoNumber") rfl)
theorem g_NoWord (T : Top K mg) : mg "NoWord" = some (.ref (He.ga K "NoWord")) := by
  obtain ⟨h, X, G⟩ := T.h
  exact He.glo_ok X G (T.c.fact 43 (f := .glo "NoWord") rfl)
theorem e_NoWord (T : Top K mg) : PySem.W.excIn K (He.ga K "NoWord") He.veBase "ValueError.__new__" = true ∧ PySem.W.keepIn K (.ref (He.ga K "NoWord")) = true ∧ PySem.W.subIn K (.ref (He.ga K "NoWord")) (.type "BaseException") = some true ∧ PySem.W.typeIn K (.ref (He.ga K "NoWord")) = some (.type "type") := He.exc_ok (T.c.fact 44 (f := .exc "NoWord") rfl)
theorem g_NoRow (T : Top K mg) : mg "NoRow" = some (.ref (He.ga K "NoRow")) := by
  obtain ⟨h, X, G⟩ := T.h
  exact He.glo_ok X G (T.c.fact 45 (f := .glo "NoRow") rfl)
theorem e_NoRow (T : Top K mg) : PySem.W.excIn K (He.ga K "NoRow") He.veBase "ValueError.__new__" = true ∧ PySem.W.keepIn K (.ref (He.ga K "NoRow")) = true ∧ PySem.W.subIn K (.ref (He.ga K "NoRow")) (.type "BaseException") = some true ∧ PySem.W.typeIn K (.ref (He.ga K "NoRow")) = some (.type "type") := He.exc_ok (T.c.fact 46 (f := .exc "NoRow") rfl)
theorem g_NoPlace (T : Top K mg) : mg "NoPlace" = some (.ref (He.ga K "NoPlace")) := by
  obtain ⟨h, X, G⟩ := T.h
  exact He.glo_ok X G (T.c.fact 47 (f := .glo "NoPlace") rfl)
theorem e_NoPlace (T : Top K mg) : PySem.W.excIn K (He.ga K "NoPlace") He.veBase "ValueError.__new__" = true ∧ PySem.W.keepIn K (.ref (He.ga K "NoPlace")) = true ∧ PySem.W.subIn K (.ref (He.ga K "NoPlace")) (.type "BaseException") = some true ∧ PySem.W.typeIn K (.ref (He.ga K "NoPlace")) = some (.type "type") := He.exc_ok (T.c.fact 48 (f := .exc "NoPlace") rfl)
theorem g_NoClock (T : Top K mg) : mg "NoClock" = some (.ref (He.ga K "NoClock")) := by
  obtain ⟨h, X, G⟩ := T.h
  exact He.glo_ok X G (T.c.fact 49 (f := .glo "NoClock") rfl)
theorem e_NoClock (T : Top K mg) : PySem.W.excIn K (He.ga K "NoClock") He.veBase "ValueError.__new__" = true ∧ PySem.W.keepIn K (.ref (He.ga K "NoClock")) = true ∧ PySem.W.subIn K (.ref (He.ga K "NoClock")) (.type "BaseException") = some true ∧ PySem.W.typeIn K (.ref (He.ga K "NoClock")) = some (.type "type") := He.exc_ok (T.c.fact 50 (f := .exc "NoClock") rfl)
theorem g_NoBag (T : Top K mg) : mg "NoBag" = some (.ref (He.ga K "NoBag")) := by
  obtain ⟨h, X, G⟩ := T.h
  exact He.glo_ok X G (T.c.fact 51 (f := .glo "NoBag") rfl)
theorem e_NoBag (T : Top K mg) : PySem.W.excIn K (He.ga K "NoBag") He.veBase "ValueError.__new__" = true ∧ PySem.W.keepIn K (.ref (He.ga K "NoBag")) = true ∧ PySem.W.subIn K (.ref (He.ga K "NoBag")) (.type "BaseException") = some true ∧ PySem.W.typeIn K (.ref (He.ga K "NoBag")) = some (.type "type") := He.exc_ok (T.c.fact 52 (f := .exc "NoBag") rfl)
theorem g_Full (T : Top K mg) : mg "Full" = some (.ref (He.ga K "Full")) := by
  obtain ⟨h, X, G⟩ := T.h
  exact He.glo_ok X G (T.c.fact 53 (f := .glo "Full") rfl)
theorem e_Full (T : Top K mg) : PySem.W.excIn K (He.ga K "Full") He.veBase "ValueError.__new__" = true ∧ PySem.W.keepIn K (.ref (He.ga K "Full")) = true ∧ PySem.W.subIn K (.ref (He.ga K "Full")) (.type "BaseException") = some true ∧ PySem.W.typeIn K (.ref (He.ga K "Full")) = some (.type "type") := He.exc_ok (T.c.fact 54 (f := .exc "Full") rfl)
theorem g_NothingDone (T : Top K mg) : mg "NothingDone" = some (.ref (He.ga K "NothingDone")) := by
  obtain ⟨h, X, G⟩ := T.h
  exact He.glo_ok X G (T.c.fact 55 (f := .glo "NothingDone") rfl)
theorem e_NothingDone (T : Top K mg) : PySem.W.excIn K (He.ga K "NothingDone") He.veBase "ValueError.__new__" = true ∧ PySem.W.keepIn K (.ref (He.ga K "NothingDone")) = true ∧ PySem.W.subIn K (.ref (He.ga K "NothingDone")) (.type "BaseException") = some true ∧ PySem.W.typeIn K (.ref (He.ga K "NothingDone")) = some (.type "type") := He.exc_ok (T.c.fact 56 (f := .exc "NothingDone") rfl)
theorem g_Bag (T : Top K mg) : mg "Bag" = some (.ref (He.ga K "Bag")) := by
  obtain ⟨h, X, G⟩ := T.h
  exact He.glo_ok X G (T.c.fact 57 (f := .glo "Bag") rfl)
theorem cls_Bag (T : Top K mg) : Cls K (He.ga K "Bag") := He.cls_ok (T.c.fact 58 (f := .cls "Bag") rfl)
theorem mk_Bag (T : Top K mg) : Mk K (He.ga K "Bag") (He.ma K (He.ga K "Bag") "__init__") := He.mkr_ok (T.c.fact 59 (f := .mkr "Bag") rfl)
theorem m_Bag___eq__ (T : Top K mg) : Meth K (He.ga K "Bag") "__eq__" (He.ma K (He.ga K "Bag") "__eq__") := He.meth_ok (T.c.fact 60 (f := .meth "Bag" "__eq__") rfl)
theorem na_Bag_clock (T : Top K mg) : NoAttr K (He.ga K "Bag") "clock" := He.noat_ok (T.c.fact 61 (f := .noat "Bag" "clock") rfl)
theorem na_Bag_words (T : Top K mg) : NoAttr K (He.ga K "Bag") "words" := He.noat_ok (T.c.fact 62 (f := .noat "Bag" "words") rfl)
theorem g_Bench (T : Top K mg) : mg "Bench" = some (.ref (He.ga K "Bench")) := by
  obtain ⟨h, X, G⟩ := T.h
  exact He.glo_ok X G (T.c.fact 63 (f := .glo "Bench") rfl)
theorem cls_Bench (T : Top K mg) : Cls K (He.ga K "Bench") := He.cls_ok (T.c.fact 64 (f := .cls "Bench") rfl)
theorem mk_Bench (T : Top K mg) : Mk K (He.ga K "Bench") (He.ma K (He.ga K "Bench") "__init__") := He.mkr_ok (T.c.fact 65 (f := .mkr "Bench") rfl)
theorem m_Bench_lay (T : Top K mg) : Meth K (He.ga K "Bench") "lay" (He.ma K (He.ga K "Bench") "lay") := He.meth_ok (T.c.fact 66 (f := .meth "Bench" "lay") rfl)
theorem m_Bench_take (T : Top K mg) : Meth K (He.ga K "Bench") "take" (He.ma K (He.ga K "Bench") "take") := He.meth_ok (T.c.fact 67 (f := .meth "Bench" "take") rfl)
theorem m_Bench_put (T : Top K mg) : Meth K (He.ga K "Bench") "put" (He.ma K (He.ga K "Bench") "put") := He.meth_ok (T.c.fact 68 (f := .meth "Bench" "put") rfl)
theorem m_Bench_fuse (T : Top K mg) : Meth K (He.ga K "Bench") "fuse" (He.ma K (He.ga K "Bench") "fuse") := He.meth_ok (T.c.fact 69 (f := .meth "Bench" "fuse") rfl)
theorem m_Bench_cleave (T : Top K mg) : Meth K (He.ga K "Bench") "cleave" (He.ma K (He.ga K "Bench") "cleave") := He.meth_ok (T.c.fact 70 (f := .meth "Bench" "cleave") rfl)
theorem m_Bench_bags (T : Top K mg) : Meth K (He.ga K "Bench") "bags" (He.ma K (He.ga K "Bench") "bags") := He.meth_ok (T.c.fact 71 (f := .meth "Bench" "bags") rfl)
theorem m_Bench_whole (T : Top K mg) : Meth K (He.ga K "Bench") "whole" (He.ma K (He.ga K "Bench") "whole") := He.meth_ok (T.c.fact 72 (f := .meth "Bench" "whole") rfl)
theorem m_Bench_back (T : Top K mg) : Meth K (He.ga K "Bench") "back" (He.ma K (He.ga K "Bench") "back") := He.meth_ok (T.c.fact 73 (f := .meth "Bench" "back") rfl)
theorem m_Bench_depth (T : Top K mg) : Meth K (He.ga K "Bench") "depth" (He.ma K (He.ga K "Bench") "depth") := He.meth_ok (T.c.fact 74 (f := .meth "Bench" "depth") rfl)
theorem m_Bench_copy (T : Top K mg) : Meth K (He.ga K "Bench") "copy" (He.ma K (He.ga K "Bench") "copy") := He.meth_ok (T.c.fact 75 (f := .meth "Bench" "copy") rfl)
theorem m_Bench_trying (T : Top K mg) : Meth K (He.ga K "Bench") "trying" (He.ma K (He.ga K "Bench") "trying") := He.meth_ok (T.c.fact 76 (f := .meth "Bench" "trying") rfl)
theorem m_Bench__become (T : Top K mg) : Meth K (He.ga K "Bench") "_become" (He.ma K (He.ga K "Bench") "_become") := He.meth_ok (T.c.fact 77 (f := .meth "Bench" "_become") rfl)
theorem m_Bench__check_place (T : Top K mg) : Meth K (He.ga K "Bench") "_check_place" (He.ma K (He.ga K "Bench") "_check_place") := He.meth_ok (T.c.fact 78 (f := .meth "Bench" "_check_place") rfl)
theorem m_Bench__check_room (T : Top K mg) : Meth K (He.ga K "Bench") "_check_room" (He.ma K (He.ga K "Bench") "_check_room") := He.meth_ok (T.c.fact 79 (f := .meth "Bench" "_check_room") rfl)
theorem na_Bench__clock (T : Top K mg) : NoAttr K (He.ga K "Bench") "_clock" := He.noat_ok (T.c.fact 80 (f := .noat "Bench" "_clock") rfl)
theorem na_Bench__row (T : Top K mg) : NoAttr K (He.ga K "Bench") "_row" := He.noat_ok (T.c.fact 81 (f := .noat "Bench" "_row") rfl)
theorem na_Bench__past (T : Top K mg) : NoAttr K (He.ga K "Bench") "_past" := He.noat_ok (T.c.fact 82 (f := .noat "Bench" "_past") rfl)
theorem g_CLOCKS (T : Top K mg) : mg "CLOCKS" = some (.ref (He.ga K "CLOCKS")) := by
  obtain ⟨h, X, G⟩ := T.h
  exact He.glo_ok X G (T.c.fact 83 (f := .glo "CLOCKS") rfl)
theorem t_LETTERS (T : Top K mg) : ∃ t, mg "LETTERS" = some (.str "xyz" t) := by
  obtain ⟨h, X, G⟩ := T.h
  exact He.str_ok X G (T.c.fact 84 (f := .str "LETTERS" "xyz") rfl)
theorem i_MOST_WORDS (T : Top K mg) : ∃ t, mg "MOST_WORDS" = some (.int 300 t) := by
  obtain ⟨h, X, G⟩ := T.h
  exact He.int_ok X G (T.c.fact 85 (f := .int "MOST_WORDS" 300) rfl)
theorem i_MOST_LETTERS (T : Top K mg) : ∃ t, mg "MOST_LETTERS" = some (.int 12 t) := by
  obtain ⟨h, X, G⟩ := T.h
  exact He.int_ok X G (T.c.fact 86 (f := .int "MOST_LETTERS" 12) rfl)
theorem i_MOST_BAGS (T : Top K mg) : ∃ t, mg "MOST_BAGS" = some (.int 12 t) := by
  obtain ⟨h, X, G⟩ := T.h
  exact He.int_ok X G (T.c.fact 87 (f := .int "MOST_BAGS" 12) rfl)
theorem f_all (T : Top K mg) : mg "all" = none := by
  obtain ⟨h, X, G⟩ := T.h
  exact He.free_ok X G (T.c.fact 88 (f := .free "all") rfl)
theorem f_bool (T : Top K mg) : mg "bool" = none := by
  obtain ⟨h, X, G⟩ := T.h
  exact He.free_ok X G (T.c.fact 89 (f := .free "bool") rfl)
theorem f_dict (T : Top K mg) : mg "dict" = none := by
  obtain ⟨h, X, G⟩ := T.h
  exact He.free_ok X G (T.c.fact 90 (f := .free "dict") rfl)
theorem f_int (T : Top K mg) : mg "int" = none := by
  obtain ⟨h, X, G⟩ := T.h
  exact He.free_ok X G (T.c.fact 91 (f := .free "int") rfl)
theorem f_isinstance (T : Top K mg) : mg "isinstance" = none := by
  obtain ⟨h, X, G⟩ := T.h
  exact He.free_ok X G (T.c.fact 92 (f := .free "isinstance") rfl)
theorem f_len (T : Top K mg) : mg "len" = none := by
  obtain ⟨h, X, G⟩ := T.h
  exact He.free_ok X G (T.c.fact 93 (f := .free "len") rfl)
theorem f_list (T : Top K mg) : mg "list" = none := by
  obtain ⟨h, X, G⟩ := T.h
  exact He.free_ok X G (T.c.fact 94 (f := .free "list") rfl)
theorem f_max (T : Top K mg) : mg "max" = none := by
  obtain ⟨h, X, G⟩ := T.h
  exact He.free_ok X G (T.c.fact 95 (f := .free "max") rfl)
theorem f_range (T : Top K mg) : mg "range" = none := by
  obtain ⟨h, X, G⟩ := T.h
  exact He.free_ok X G (T.c.fact 96 (f := .free "range") rfl)
theorem f_repr (T : Top K mg) : mg "repr" = none := by
  obtain ⟨h, X, G⟩ := T.h
  exact He.free_ok X G (T.c.fact 97 (f := .free "repr") rfl)
theorem f_sorted (T : Top K mg) : mg "sorted" = none := by
  obtain ⟨h, X, G⟩ := T.h
  exact He.free_ok X G (T.c.fact 98 (f := .free "sorted") rfl)
theorem f_str (T : Top K mg) : mg "str" = none := by
  obtain ⟨h, X, G⟩ := T.h
  exact He.free_ok X G (T.c.fact 99 (f := .free "str") rfl)
theorem f_tuple (T : Top K mg) : mg "tuple" = none := by
  obtain ⟨h, X, G⟩ := T.h
  exact He.free_ok X G (T.c.fact 100 (f := .free "tuple") rfl)
theorem fn__wall (T : Top K mg) : ∃ fd, FnP K "_wall" "_wall" s__wall (He.fAd K ("_wall", none)) fd := T.c.def_ 0 (d := d__wall) rfl
theorem fn_is_integer (T : Top K mg) : ∃ fd, FnP K "is_integer" "is_integer" s_is_integer (He.fAd K ("is_integer", none)) fd := T.c.def_ 1 (d := d_is_integer) rfl
theorem fn_is_from_to (T : Top K mg) : ∃ fd, FnP K "is_from_to" "is_from_to" s_is_from_to (He.fAd K ("is_from_to", none)) fd := T.c.def_ 2 (d := d_is_from_to) rfl
theorem fn_is_clock (T : Top K mg) : ∃ fd, FnP K "is_clock" "is_clock" s_is_clock (He.fAd K ("is_clock", none)) fd := T.c.def_ 3 (d := d_is_clock) rfl
theorem fn_check_clock (T : Top K mg) : ∃ fd, FnP K "check_clock" "check_clock" s_check_clock (He.fAd K ("check_clock", none)) fd := T.c.def_ 4 (d := d_check_clock) rfl
theorem fn_is_word (T : Top K mg) : ∃ fd, FnP K "is_word" "is_word" s_is_word (He.fAd K ("is_word", none)) fd := T.c.def_ 5 (d := d_is_word) rfl
theorem fn_rank_of (T : Top K mg) : ∃ fd, FnP K "rank_of" "rank_of" s_rank_of (He.fAd K ("rank_of", none)) fd := T.c.def_ 6 (d := d_rank_of) rfl
theorem fn_tidied (T : Top K mg) : ∃ fd, FnP K "tidied" "tidied" s_tidied (He.fAd K ("tidied", none)) fd := T.c.def_ 7 (d := d_tidied) rfl
theorem fn_added (T : Top K mg) : ∃ fd, FnP K "added" "added" s_added (He.fAd K ("added", none)) fd := T.c.def_ 8 (d := d_added) rfl
theorem fn_multiplied (T : Top K mg) : ∃ fd, FnP K "multiplied" "multiplied" s_multiplied (He.fAd K ("multiplied", none)) fd := T.c.def_ 9 (d := d_multiplied) rfl
theorem fn_Bag__init__ (T : Top K mg) : ∃ fd, FnP K "__init__" "Bag.__init__" s_Bag__init__ (He.fAd K ("Bag", some "__init__")) fd := T.c.def_ 10 (d := d_Bag__init__) rfl
theorem fn_Bag__eq__ (T : Top K mg) : ∃ fd, FnP K "__eq__" "Bag.__eq__" s_Bag__eq__ (He.fAd K ("Bag", some "__eq__")) fd := T.c.def_ 11 (d := d_Bag__eq__) rfl
theorem fn_are_words (T : Top K mg) : ∃ fd, FnP K "are_words" "are_words" s_are_words (He.fAd K ("are_words", none)) fd := T.c.def_ 12 (d := d_are_words) rfl
theorem fn_is_short_word (T : Top K mg) : ∃ fd, FnP K "is_short_word" "is_short_word" s_is_short_word (He.fAd K ("is_short_word", none)) fd := T.c.def_ 13 (d := d_is_short_word) rfl
theorem fn_pairs_of (T : Top K mg) : ∃ fd, FnP K "pairs_of" "pairs_of" s_pairs_of (He.fAd K ("pairs_of", none)) fd := T.c.def_ 14 (d := d_pairs_of) rfl
theorem fn_bag_of (T : Top K mg) : ∃ fd, FnP K "bag_of" "bag_of" s_bag_of (He.fAd K ("bag_of", none)) fd := T.c.def_ 15 (d := d_bag_of) rfl
theorem fn_table_of (T : Top K mg) : ∃ fd, FnP K "table_of" "table_of" s_table_of (He.fAd K ("table_of", none)) fd := T.c.def_ 16 (d := d_table_of) rfl
theorem fn_is_bag (T : Top K mg) : ∃ fd, FnP K "is_bag" "is_bag" s_is_bag (He.fAd K ("is_bag", none)) fd := T.c.def_ 17 (d := d_is_bag) rfl
theorem fn_are_bags (T : Top K mg) : ∃ fd, FnP K "are_bags" "are_bags" s_are_bags (He.fAd K ("are_bags", none)) fd := T.c.def_ 18 (d := d_are_bags) rfl
theorem fn_check_clocks (T : Top K mg) : ∃ fd, FnP K "check_clocks" "check_clocks" s_check_clocks (He.fAd K ("check_clocks", none)) fd := T.c.def_ 19 (d := d_check_clocks) rfl
theorem fn_check_bags (T : Top K mg) : ∃ fd, FnP K "check_bags" "check_bags" s_check_bags (He.fAd K ("check_bags", none)) fd := T.c.def_ 20 (d := d_check_bags) rfl
theorem fn_behind (T : Top K mg) : ∃ fd, FnP K "behind" "behind" s_behind (He.fAd K ("behind", none)) fd := T.c.def_ 21 (d := d_behind) rfl
theorem fn_all_behind (T : Top K mg) : ∃ fd, FnP K "all_behind" "all_behind" s_all_behind (He.fAd K ("all_behind", none)) fd := T.c.def_ 22 (d := d_all_behind) rfl
theorem fn_Bench__init__ (T : Top K mg) : ∃ fd, FnP K "__init__" "Bench.__init__" s_Bench__init__ (He.fAd K ("Bench", some "__init__")) fd := T.c.def_ 23 (d := d_Bench__init__) rfl
theorem fn_Benchlay (T : Top K mg) : ∃ fd, FnP K "lay" "Bench.lay" s_Benchlay (He.fAd K ("Bench", some "lay")) fd := T.c.def_ 24 (d := d_Benchlay) rfl
theorem fn_Benchtake (T : Top K mg) : ∃ fd, FnP K "take" "Bench.take" s_Benchtake (He.fAd K ("Bench", some "take")) fd := T.c.def_ 25 (d := d_Benchtake) rfl
theorem fn_Benchput (T : Top K mg) : ∃ fd, FnP K "put" "Bench.put" s_Benchput (He.fAd K ("Bench", some "put")) fd := T.c.def_ 26 (d := d_Benchput) rfl
theorem fn_Benchfuse (T : Top K mg) : ∃ fd, FnP K "fuse" "Bench.fuse" s_Benchfuse (He.fAd K ("Bench", some "fuse")) fd := T.c.def_ 27 (d := d_Benchfuse) rfl
theorem fn_Benchcleave (T : Top K mg) : ∃ fd, FnP K "cleave" "Bench.cleave" s_Benchcleave (He.fAd K ("Bench", some "cleave")) fd := T.c.def_ 28 (d := d_Benchcleave) rfl
theorem fn_Benchbags (T : Top K mg) : ∃ fd, FnP K "bags" "Bench.bags" s_Benchbags (He.fAd K ("Bench", some "bags")) fd := T.c.def_ 29 (d := d_Benchbags) rfl
theorem fn_Benchwhole (T : Top K mg) : ∃ fd, FnP K "whole" "Bench.whole" s_Benchwhole (He.fAd K ("Bench", some "whole")) fd := T.c.def_ 30 (d := d_Benchwhole) rfl
theorem fn_Benchback (T : Top K mg) : ∃ fd, FnP K "back" "Bench.back" s_Benchback (He.fAd K ("Bench", some "back")) fd := T.c.def_ 31 (d := d_Benchback) rfl
theorem fn_Benchdepth (T : Top K mg) : ∃ fd, FnP K "depth" "Bench.depth" s_Benchdepth (He.fAd K ("Bench", some "depth")) fd := T.c.def_ 32 (d := d_Benchdepth) rfl
theorem fn_Benchcopy (T : Top K mg) : ∃ fd, FnP K "copy" "Bench.copy" s_Benchcopy (He.fAd K ("Bench", some "copy")) fd := T.c.def_ 33 (d := d_Benchcopy) rfl
theorem fn_Benchtrying (T : Top K mg) : ∃ fd, FnP K "trying" "Bench.trying" s_Benchtrying (He.fAd K ("Bench", some "trying")) fd := T.c.def_ 34 (d := d_Benchtrying) rfl
theorem fn_Bench_become (T : Top K mg) : ∃ fd, FnP K "_become" "Bench._become" s_Bench_become (He.fAd K ("Bench", some "_become")) fd := T.c.def_ 35 (d := d_Bench_become) rfl
theorem fn_Bench_check_place (T : Top K mg) : ∃ fd, FnP K "_check_place" "Bench._check_place" s_Bench_check_place (He.fAd K ("Bench", some "_check_place")) fd := T.c.def_ 36 (d := d_Bench_check_place) rfl
theorem fn_Bench_check_room (T : Top K mg) : ∃ fd, FnP K "_check_room" "Bench._check_room" s_Bench_check_room (He.fAd K ("Bench", some "_check_room")) fd := T.c.def_ 37 (d := d_Bench_check_room) rfl
theorem fn__law_tape (T : Top K mg) : ∃ fd, FnP K "_law_tape" "_law_tape" s__law_tape (He.fAd K ("_law_tape", none)) fd := T.c.def_ 38 (d := d__law_tape) rfl
theorem fn__law_pick (T : Top K mg) : ∃ fd, FnP K "_law_pick" "_law_pick" s__law_pick (He.fAd K ("_law_pick", none)) fd := T.c.def_ 39 (d := d__law_pick) rfl
theorem fn__law_word (T : Top K mg) : ∃ fd, FnP K "_law_word" "_law_word" s__law_word (He.fAd K ("_law_word", none)) fd := T.c.def_ 40 (d := d__law_word) rfl
theorem fn__law_sparse (T : Top K mg) : ∃ fd, FnP K "_law_sparse" "_law_sparse" s__law_sparse (He.fAd K ("_law_sparse", none)) fd := T.c.def_ 41 (d := d__law_sparse) rfl
theorem fn__law_clock (T : Top K mg) : ∃ fd, FnP K "_law_clock" "_law_clock" s__law_clock (He.fAd K ("_law_clock", none)) fd := T.c.def_ 42 (d := d__law_clock) rfl
theorem fn__law_letters (T : Top K mg) : ∃ fd, FnP K "_law_letters" "_law_letters" s__law_letters (He.fAd K ("_law_letters", none)) fd := T.c.def_ 43 (d := d__law_letters) rfl
theorem fn__law_pairs (T : Top K mg) : ∃ fd, FnP K "_law_pairs" "_law_pairs" s__law_pairs (He.fAd K ("_law_pairs", none)) fd := T.c.def_ 44 (d := d__law_pairs) rfl
theorem fn__law_sum (T : Top K mg) : ∃ fd, FnP K "_law_sum" "_law_sum" s__law_sum (He.fAd K ("_law_sum", none)) fd := T.c.def_ 45 (d := d__law_sum) rfl
theorem fn__law_product (T : Top K mg) : ∃ fd, FnP K "_law_product" "_law_product" s__law_product (He.fAd K ("_law_product", none)) fd := T.c.def_ 46 (d := d__law_product) rfl
theorem fn__law_size (T : Top K mg) : ∃ fd, FnP K "_law_size" "_law_size" s__law_size (He.fAd K ("_law_size", none)) fd := T.c.def_ 47 (d := d__law_size) rfl
theorem fn__law_is (T : Top K mg) : ∃ fd, FnP K "_law_is" "_law_is" s__law_is (He.fAd K ("_law_is", none)) fd := T.c.def_ 48 (d := d__law_is) rfl
theorem fn__law_is_told (T : Top K mg) : ∃ fd, FnP K "_law_is_told" "_law_is_told" s__law_is_told (He.fAd K ("_law_is_told", none)) fd := T.c.def_ 49 (d := d__law_is_told) rfl
theorem fn__law_room (T : Top K mg) : ∃ fd, FnP K "_law_room" "_law_room" s__law_room (He.fAd K ("_law_room", none)) fd := T.c.def_ 50 (d := d__law_room) rfl
theorem fn__law_many (T : Top K mg) : ∃ fd, FnP K "_law_many" "_law_many" s__law_many (He.fAd K ("_law_many", none)) fd := T.c.def_ 51 (d := d__law_many) rfl
theorem fn_law (T : Top K mg) : ∃ fd, FnP K "law" "law" s_law (He.fAd K ("law", none)) fd := T.c.def_ 52 (d := d_law) rfl
theorem x_CLOCKS (T : Top K mg) (H : Hp) : SqT K H (He.ga K "CLOCKS") [.int 2, .int 3, .int 5, .int 7] := He.tupB_ok (T.x 0) H
theorem x_class (T : Top K mg) : PySem.W.findIn K (.ref (He.ga K "Bag")) "__class__" = some (some (.builtin "object.__class__")) := of_decide_eq_true (T.x 1)
theorem x_get (T : Top K mg) : PySem.W.specialIn K (.builtin "object.__class__") "__get__" = some (some (.builtin "getset_descriptor.__get__")) := of_decide_eq_true (T.x 2)
theorem x_takes (T : Top K mg) : PySem.W.takesIn K (.builtin "object.__class__") = some true := of_decide_eq_true (T.x 3)
theorem x_mro (T : Top K mg) : PySem.W.mroIn K (He.ga K "Bag") (.type "object") = some true := of_decide_eq_true (T.x 4)
theorem x_ne (T : Top K mg) : PySem.W.findIn K (.ref (He.ga K "Bag")) "__ne__" = some (some (.builtin "object.__ne__")) := of_decide_eq_true (T.x 5)
theorem x_is (T : Top K mg) : PySem.W.kitOne K (.ref (He.ga K "Bag")) (.ref (He.ga K "Bag")) = some true := of_decide_eq_true (T.x 6)
theorem x_nf_NoneType (T : Top K mg) : PySem.W.notFirst K (He.ga K "Bag") (.type "NoneType") = true := T.x 7
theorem x_no_NoneType (T : Top K mg) : PySem.W.kitOne K (.type "NoneType") (.ref (He.ga K "Bag")) = some false := of_decide_eq_true (T.x 8)
theorem x_nf_int (T : Top K mg) : PySem.W.notFirst K (He.ga K "Bag") (.type "int") = true := T.x 9
theorem x_no_int (T : Top K mg) : PySem.W.kitOne K (.type "int") (.ref (He.ga K "Bag")) = some false := of_decide_eq_true (T.x 10)
theorem x_nf_bool (T : Top K mg) : PySem.W.notFirst K (He.ga K "Bag") (.type "bool") = true := T.x 11
theorem x_no_bool (T : Top K mg) : PySem.W.kitOne K (.type "bool") (.ref (He.ga K "Bag")) = some false := of_decide_eq_true (T.x 12)
theorem x_nf_str (T : Top K mg) : PySem.W.notFirst K (He.ga K "Bag") (.type "str") = true := T.x 13
theorem x_no_str (T : Top K mg) : PySem.W.kitOne K (.type "str") (.ref (He.ga K "Bag")) = some false := of_decide_eq_true (T.x 14)
theorem x_nf_dict (T : Top K mg) : PySem.W.notFirst K (He.ga K "Bag") (.type "dict") = true := T.x 15
theorem x_no_dict (T : Top K mg) : PySem.W.kitOne K (.type "dict") (.ref (He.ga K "Bag")) = some false := of_decide_eq_true (T.x 16)
theorem x_nf_list (T : Top K mg) : PySem.W.notFirst K (He.ga K "Bag") (.type "list") = true := T.x 17
theorem x_no_list (T : Top K mg) : PySem.W.kitOne K (.type "list") (.ref (He.ga K "Bag")) = some false := of_decide_eq_true (T.x 18)
theorem x_nf_tuple (T : Top K mg) : PySem.W.notFirst K (He.ga K "Bag") (.type "tuple") = true := T.x 19
theorem x_no_tuple (T : Top K mg) : PySem.W.kitOne K (.type "tuple") (.ref (He.ga K "Bag")) = some false := of_decide_eq_true (T.x 20)
theorem xm_BagError (T : Top K mg) : PySem.W.exmOne K (.ref (He.ga K "BagError")) (.ref (He.ga K "BagError")) = some true := of_decide_eq_true (T.x 21)
theorem xm_UnlikeClocks (T : Top K mg) : PySem.W.exmOne K (.ref (He.ga K "UnlikeClocks")) (.ref (He.ga K "UnlikeClocks")) = some true := of_decide_eq_true (T.x 22)
theorem xm_NoNumber (T : Top K mg) : PySem.W.exmOne K (.ref (He.ga K "NoNumber")) (.ref (He.ga K "NoNumber")) = some true := of_decide_eq_true (T.x 23)
theorem xm_NoWord (T : Top K mg) : PySem.W.exmOne K (.ref (He.ga K "NoWord")) (.ref (He.ga K "NoWord")) = some true := of_decide_eq_true (T.x 24)
theorem xm_NoRow (T : Top K mg) : PySem.W.exmOne K (.ref (He.ga K "NoRow")) (.ref (He.ga K "NoRow")) = some true := of_decide_eq_true (T.x 25)
theorem xm_NoPlace (T : Top K mg) : PySem.W.exmOne K (.ref (He.ga K "NoPlace")) (.ref (He.ga K "NoPlace")) = some true := of_decide_eq_true (T.x 26)
theorem xm_NoClock (T : Top K mg) : PySem.W.exmOne K (.ref (He.ga K "NoClock")) (.ref (He.ga K "NoClock")) = some true := of_decide_eq_true (T.x 27)
theorem xm_NoBag (T : Top K mg) : PySem.W.exmOne K (.ref (He.ga K "NoBag")) (.ref (He.ga K "NoBag")) = some true := of_decide_eq_true (T.x 28)
theorem xm_Full (T : Top K mg) : PySem.W.exmOne K (.ref (He.ga K "Full")) (.ref (He.ga K "Full")) = some true := of_decide_eq_true (T.x 29)
theorem xm_NothingDone (T : Top K mg) : PySem.W.exmOne K (.ref (He.ga K "NothingDone")) (.ref (He.ga K "NothingDone")) = some true := of_decide_eq_true (T.x 30)
end
end Fp

set_option Elab.async false
set_option linter.all false
set_option maxRecDepth 100000
set_option maxHeartbeats 2000000
namespace Fp
open PySem PySem.Spec PyProof.Rows L2
/-! ### words -/
def xyz (w : Str) : Prop := ∀ c ∈ w.cps.toList, c = 120 ∨ c = 121 ∨ c = 122
theorem tw_self {g : Nat → Bool} : ∀ {l : List Nat}, (∀ c ∈ l, g c = true) → l.takeWhile g = l
  | [], _ => rfl
  | c :: r, h => by
    rw [List.takeWhile_cons, if_pos (h c List.mem_cons_self), tw_self fun d hd => h d (List.mem_cons_of_mem _ hd)]
theorem strip_xyz {w : Str} (h : xyz w) : PySem.Txt.stripChars w "xyz" = (Str.ofString "") := by
  have hg : ∀ c ∈ w.cps.toList, (("xyz" : Str).cps.contains c) = true := fun c hc => by
    rcases h c hc with e | e | e <;> subst e <;> decide +kernel
  have ht : w.cps.toList.takeWhile ("xyz" : Str).cps.contains = w.cps.toList := tw_self hg
  have hlo : stripLo ("xyz" : Str).cps.contains true w = w.cps.toList.length := by
    unfold stripLo
    rw [if_pos rfl, ht]
  have hsz : w.length = w.cps.toList.length := by simp [Str.length]
  unfold PySem.Txt.stripChars PySem.Txt.stripBy
  cases e : stripSame ("xyz" : Str).cps.contains true true w with
  | true =>
    rw [if_pos rfl]
    unfold stripSame at e
    rw [hlo] at e
    simp only [Bool.and_eq_true, beq_iff_eq] at e
    have e0 : w.cps.toList = [] := List.length_eq_zero_iff.mp e.1
    obtain ⟨a⟩ := w
    have : a = #[] := by simpa using e0
    subst this
    rfl
  | false =>
    rw [if_neg Bool.false_ne_true]
    unfold stripped
    rw [hlo]
    have hhi : stripHi ("xyz" : Str).cps.contains true w w.cps.toList.length = w.length := by
      unfold stripHi
      rw [if_pos rfl, List.drop_length]
      simp
    rw [hhi, hsz]
    unfold Builtin.Str.strSub
    simp
    rfl
section
variable {P : Program} {w : World} {K : PySem.W.Frag} {mg : Str → Option Value} {base : Heap}
/-! ### kinds -/
def spInt : Sp := fun vs H Q _ => ∃ i : Int, vs = [.int i] ∧ Q (.bl true) H
theorem sc_is_integer : FnScope ["thing"] ["thing"] (defScope s_is_integer) := ⟨rfl, rfl, rfl, by decide +kernel, rfl, by decide +kernel, by decide +kernel⟩
theorem ok_is_integer (T : Top K mg) : Ok P w K mg base 1 "is_integer" ["thing"] spInt := by
  obtain ⟨fd, F⟩ := fn_is_integer T
  refine ⟨⟨fd, ?_, F.bindsN fun _ _ _ _ _ _ us hl => match us, hl with | [_], _ => rfl⟩, g_is_integer T, F.kp⟩
  refine F.ok sc_is_integer (fun vs H Q E h => ?_) (fun cdv A outer s H vs Q E hr h => ?_)
  · obtain ⟨i, rfl, _⟩ := h
    rfl
  · obtain ⟨i, rfl, q⟩ := h
    refine ⟨_, PSs.nox (pss_one (ps_ret (pe_and (pe_callB call_isi (by rfl) (f_isinstance T) (by decide +kernel) (pa_cons (pv 0) (pa_cons (pe_bltn (v := .ty "int") (by rfl) (f_int T) boot_int rfl) pa_nil)))
      (pe_one (pe_not (pe_callB call_isi (by rfl) (f_isinstance T) (by decide +kernel) (pa_cons (pv 0) (pa_cons (pe_bltn (v := .ty "bool") (by rfl) (f_bool T) (by decide +kernel) rfl) pa_nil)))))))), ?_⟩
    refine ⟨_, rfl, .int i, _, _, _, true, rfl, .ty "int", .base (.int i), kit_ty (by decide +kernel), true, rfl, iteT ?_⟩
    exact ⟨_, rfl, .int i, _, _, _, false, rfl, .ty "bool", .base (.int i), kit_ty (by decide +kernel), false, rfl, q⟩
def spFromTo : Sp := fun vs H Q _ => ∃ i lo hi : Int, vs = [.int i, .int lo, .int hi] ∧ Q (.bl (decide (lo ≤ i) && decide (i ≤ hi))) H
theorem sc_is_from_to : FnScope ["thing", "low", "high"] ["thing", "low", "high"] (defScope s_is_from_to) := ⟨rfl, rfl, rfl, by decide +kernel, rfl, by decide +kernel, by decide +kernel⟩
theorem ok_is_from_to (T : Top K mg) : Ok P w K mg base 2 "is_from_to" ["thing", "low", "high"] spFromTo := by
  obtain ⟨fd, F⟩ := fn_is_from_to T
  refine ⟨⟨fd, ?_, F.bindsN fun _ _ _ _ _ _ us hl => match us, hl with | [_, _, _], _ => rfl⟩, g_is_from_to T, F.kp⟩
  refine F.ok sc_is_from_to (fun vs H Q E h => ?_) (fun cdv A outer s H vs Q E hr h => ?_)
  · obtain ⟨i, lo, hi, rfl, _⟩ := h
    rfl
  · obtain ⟨i, lo, hi, rfl, q⟩ := h
    refine ⟨_, PSs.nox (pss_one (ps_ret (pe_and (pc (ok_is_integer T) hr (pa_cons (pv 0) pa_nil)) (pe_one (pe_chain op_le op_le (pv 1) (pv 0) (pv 2)))))), ?_⟩
    refine ⟨_, rfl, i, rfl, true, rfl, iteT ?_⟩
    refine ⟨_, rfl, _, rfl, _, _, rfl, rfl, _, rfl, ?_⟩
    by_cases h1 : lo ≤ i
    · rw [decide_eq_true h1] at q ⊢
      exact iteT ⟨_, rfl, _, _, rfl, rfl, q⟩
    · rw [decide_eq_false h1] at q ⊢
      exact iteF q
def isCk (c : Int) : Prop := c = 2 ∨ c = 3 ∨ c = 5 ∨ c = 7
def spClock : Sp := fun vs H Q _ => ∃ c : Int, vs = [.int c] ∧ isCk c ∧ Q (.bl true) H
theorem sc_is_clock : FnScope ["thing"] ["thing"] (defScope s_is_clock) := ⟨rfl, rfl, rfl, by decide +kernel, rfl, by decide +kernel, by decide +kernel⟩
theorem ok_is_clock (T : Top K mg) : Ok P w K mg base 2 "is_clock" ["thing"] spClock := by
  obtain ⟨fd, F⟩ := fn_is_clock T
  refine ⟨⟨fd, ?_, F.bindsN fun _ _ _ _ _ _ us hl => match us, hl with | [_], _ => rfl⟩, g_is_clock T, F.kp⟩
  refine F.ok sc_is_clock (fun vs H Q E h => ?_) (fun cdv A outer s H vs Q E hr h => ?_)
  · obtain ⟨i, rfl, _⟩ := h
    rfl
  · obtain ⟨c, rfl, hc, q⟩ := h
    refine ⟨_, PSs.nox (pss_one (ps_ret (pe_and (pc (ok_is_integer T) hr (pa_cons (pv 0) pa_nil)) (pe_one (pe_cmpR op_in_seq (pv 0) (pe_glob (v := .ref (He.ga K "CLOCKS")) rfl (g_CLOCKS T) rfl) (by rfl)))))), ?_⟩
    refine ⟨_, rfl, c, rfl, true, rfl, iteT ?_⟩
    refine ⟨_, rfl, _, _, rfl, .inr (x_CLOCKS T _), rfl, rfl, ?_⟩
    have e : (if false = true then !inV (V.int c) [.int 2, .int 3, .int 5, .int 7] else inV (V.int c) [.int 2, .int 3, .int 5, .int 7]) = true := by
      rcases hc with rfl | rfl | rfl | rfl <;> decide
    rw [e]
    exact q
def spWord : Sp := fun vs H Q _ => ∃ x : Str, vs = [.str x] ∧ xyz x ∧ x.length ≤ 1000000 ∧ Q (.bl true) H
theorem sc_is_word : FnScope ["thing"] ["thing"] (defScope s_is_word) := ⟨rfl, rfl, rfl, by decide +kernel, rfl, by decide +kernel, by decide +kernel⟩
theorem ok_is_word (T : Top K mg) : Ok P w K mg base 1 "is_word" ["thing"] spWord := by
  obtain ⟨fd, F⟩ := fn_is_word T
  obtain ⟨tk, hL⟩ := t_LETTERS T
  refine ⟨⟨fd, ?_, F.bindsN fun _ _ _ _ _ _ us hl => match us, hl with | [_], _ => rfl⟩, g_is_word T, F.kp⟩
  refine F.ok sc_is_word (fun vs H Q E h => ?_) (fun cdv A outer s H vs Q E hr h => ?_)
  · obtain ⟨i, rfl, _⟩ := h
    rfl
  · obtain ⟨x, rfl, hx, hl, q⟩ := h
    have hs : sizeLine = 16777216 := sizeLine_eq
    refine ⟨_, PSs.nox (pss_one (ps_ret (pe_and (pe_callB call_isi (by rfl) (f_isinstance T) (by decide +kernel) (pa_cons (pv 0) (pa_cons (pe_bltn (v := .ty "str") (by rfl) (f_str T) (by decide +kernel) rfl) pa_nil)))
      (pe_one (pe_cmpR op_eq (pe_m1 PySem.F.slot_str_strip PySem.F.type_str_strip mt_stripChars (pv 0) (pe_glob (v := .str "xyz") rfl hL ⟨_, rfl⟩)) pe_str (nomark _)))))), ?_⟩
    refine ⟨_, rfl, .str x, _, _, _, true, rfl, .ty "str", .base (.str x), kit_ty (by decide +kernel), true, rfl, iteT ?_⟩
    refine ⟨_, rfl, ⟨x, rfl⟩, x, _, rfl, rfl, by omega, rfl, ?_⟩
    rw [strip_xyz hx]
    exact q
def spShort : Sp := fun vs H Q _ => ∃ x : Str, vs = [.str x] ∧ xyz x ∧ x.length ≤ 12 ∧ Q (.bl true) H
theorem sc_is_short_word : FnScope ["thing"] ["thing"] (defScope s_is_short_word) := ⟨rfl, rfl, rfl, by decide +kernel, rfl, by decide +kernel, by decide +kernel⟩
theorem ok_is_short_word (T : Top K mg) : Ok P w K mg base 2 "is_short_word" ["thing"] spShort := by
  obtain ⟨fd, F⟩ := fn_is_short_word T
  obtain ⟨tk, hL⟩ := i_MOST_LETTERS T
  refine ⟨⟨fd, ?_, F.bindsN fun _ _ _ _ _ _ us hl => match us, hl with | [_], _ => rfl⟩, g_is_short_word T, F.kp⟩
  refine F.ok sc_is_short_word (fun vs H Q E h => ?_) (fun cdv A outer s H vs Q E hr h => ?_)
  · obtain ⟨i, rfl, _⟩ := h
    rfl
  · obtain ⟨x, rfl, hx, hl, q⟩ := h
    have hs : sizeLine = 16777216 := sizeLine_eq
    refine ⟨_, PSs.nox (pss_one (ps_ret (pe_and (pc (ok_is_word T) hr (pa_cons (pv 0) pa_nil)) (pe_one (pe_cmpR op_le (pe_callB call_len_str (by rfl) (f_len T) PySem.boot_len (pa_cons (pv 0) pa_nil)) (pe_glob (v := .int 12) rfl hL ⟨_, rfl⟩) (nomark _)))))), ?_⟩
    refine ⟨_, rfl, x, rfl, hx, by omega, true, rfl, iteT ?_⟩
    refine ⟨_, rfl, x, rfl, by omega, _, _, rfl, rfl, ?_⟩
    show Q (.bl (decide ((x.length : Int) ≤ 12))) H
    rw [decide_eq_true (show ((x.length : Int) ≤ 12) by omega)]
    exact q
end
end Fp

set_option Elab.async false
set_option linter.all false
set_option maxRecDepth 100000
set_option maxHeartbeats 2000000
namespace Fp
open PySem PySem.Spec PyProof.Rows L2
/-- a table that Bag lets: by the clock c, words of at most m letters, at most k of them -/
structure VT (c : Int) (m k : Nat) (l : Tb) : Prop where
  nd : Nd l
  nu : ∀ p ∈ l, 1 ≤ p.2 ∧ p.2 < c
  wd : ∀ p ∈ l, xyz p.1 ∧ p.1.length ≤ m
  ln : l.length ≤ k
theorem VT.mono {c : Int} {m k m' k' : Nat} {l : Tb} (h : VT c m k l) (hm : m ≤ m') (hk : k ≤ k') : VT c m' k' l :=
  ⟨h.nd, h.nu, fun p hp => ⟨(h.wd p hp).1, Nat.le_trans (h.wd p hp).2 hm⟩, Nat.le_trans h.ln hk⟩
theorem find_of {l : Tb} (h : Nd l) {i : Nat} {p : Str × Int} (e : l[i]? = some p) : (l.find? fun q => decide (q.1 = p.1)) = some p := by
  induction l generalizing i with
  | nil => simp at e
  | cons q r ih =>
    have h' : (q.1 :: r.map (·.1)).Nodup := h
    obtain ⟨h1, h2⟩ := List.nodup_cons.mp h'
    cases i with
    | zero =>
      have : q = p := by simpa using e
      subst this
      rw [List.find?_cons_of_pos (by simp)]
    | succ i =>
      have e' : r[i]? = some p := by simpa using e
      have hm : p ∈ r := List.mem_of_getElem? e'
      have hne : q.1 ≠ p.1 := fun z => h1 (z ▸ List.mem_map.mpr ⟨p, hm, rfl⟩)
      rw [List.find?_cons_of_neg (by simpa using hne)]
      exact ih h2 e'
theorem num_of {l : Tb} (h : Nd l) {i : Nat} {p : Str × Int} (e : l[i]? = some p) : num l p.1 = p.2 := by
  unfold num
  rw [find_of h e]
  rfl
theorem has_of {l : Tb} {i : Nat} {p : Str × Int} (e : l[i]? = some p) : has l p.1 = true := has_iff.mpr (List.mem_map.mpr ⟨p, List.mem_of_getElem? e, rfl⟩)
theorem kv_at {l : Tb} {i : Nat} {k : Key} {v : V} (e : (kv l)[i]? = some (k, v)) : ∃ p, l[i]? = some p ∧ k = Sum.inr p.1 ∧ v = .int p.2 := by
  unfold kv at e
  rw [List.getElem?_map] at e
  cases q : l[i]? with
  | none => rw [q] at e; cases e
  | some p =>
    rw [q] at e
    have e2 := Option.some.inj e
    injection e2 with e3 e4
    exact ⟨p, rfl, e3.symm, e4.symm⟩
section
variable {P : Program} {w : World} {K : PySem.W.Frag} {mg : Str → Option Value} {base : Heap}
def spAreWords : Sp := fun vs H Q _ => ∃ (c : Int) (d : Addr) (l : Tb), vs = [.int c, .ref d] ∧ H d = some (.dK (kv l)) ∧ VT c 12 300 l ∧ ∀ H', Same H H' → Q (.bl true) H'
abbrev nAreWords : List Str := ["clock", "thing", "word"]
theorem sc_are_words : FnScope nAreWords ["clock", "thing"] (defScope s_are_words) := ⟨rfl, rfl, rfl, by decide +kernel, rfl, by decide +kernel, by decide +kernel⟩
theorem ok_are_words (T : Top K mg) : Ok P w K mg base 4 "are_words" ["clock", "thing"] spAreWords := by
  obtain ⟨fd, F⟩ := fn_are_words T
  obtain ⟨tk, hL⟩ := i_MOST_WORDS T
  refine ⟨⟨fd, ?_, F.bindsN fun _ _ _ _ _ _ us hl => match us, hl with | [_, _], _ => rfl⟩, g_are_words T, F.kp⟩
  refine F.ok sc_are_words (fun vs H Q E h => ?_) (fun cdv A outer s H vs Q E hr h => ?_)
  · obtain ⟨c, d, l, rfl, _⟩ := h
    rfl
  · obtain ⟨c, d, l, rfl, hd, hv, q⟩ := h
    have hu := hu_of hr
    have nd := sc_are_words.nd
    have hr2 : Room 2 _ := hr.mono (by decide)
    have hs : sizeLine = 16777216 := sizeLine_eq
    have hln := hv.ln
    refine ⟨_, PSs.nox (pss_cons (ps_if (PW.pt (pw_or (pt_not (pt_val (pe_callB call_isi (by rfl) (f_isinstance T) (by decide +kernel) (pa_cons (pv 1) (pa_cons (pe_bltn (v := .ty "dict") (by rfl) (f_dict T) (by decide +kernel) rfl) pa_nil)))))
        (pw_or1 (pt_cmpR op_gt (pe_callB call_lenD (by rfl) (f_len T) PySem.boot_len (pa_cons (pv 1) pa_nil)) (pe_glob (v := .int 300) rfl hL ⟨_, rfl⟩) (nomark _))))) (pss_one (ps_ret pe_bl)) pss_nil)
      (pss_one (ps_ret (pe_callB (cr_all rfl) (by rfl) (f_all T) (by decide +kernel) (pa_cons (pe_lock (pe_lc (own := [("word", 2)]) (g := gName 2) (tt := tYes) rfl nd (pi_keys (pv 1)) (blkOk_by (N := nAreWords) (sc := defScope s_are_words) (by decide +kernel))
        (fun _ _ _ _ _ => pg_name (i := 2) nd rfl (Or.inl rfl)) (fun _ _ _ _ _ => pts_nil)
        (fun _ _ _ _ _ => pe_and (pc (ok_is_short_word T) hr2 (pa_cons (pv 2) pa_nil)) (pe_one (pc (ok_is_from_to T) hr2 (pa_cons (pe_dget hu (pv 1) (pv 2) (fun _ _ => rfl)) (pa_cons pe_int (pa_cons (pe_op op_sub (pv 0) pe_int) pa_nil)))))))) pa_nil))))), ?_⟩
    refine ⟨_, rfl, .ref d, _, _, _, true, rfl, .ty "dict", .base (.dK hd), kit_ty (by decide +kernel), true, rfl, iteF ?_⟩
    refine ⟨_, rfl, d, _, rfl, hd, _, _, rfl, rfl, _, rfl, ?_⟩
    rw [show decide ((300 : Int) < ((kv l).length : Int)) = false by
      rw [kv_len]
      exact decide_eq_false (by omega)]
    refine iteF ?_
    refine ⟨d, _, hd, trivial, fun od => ?_⟩
    refine ⟨_, rfl, d, od, rfl, .inl ⟨kv l, upd_same, fun D hD => ?_⟩⟩
    have nD : D ≠ d := fun e => by
      rw [e, upd_same] at hD
      cases hD
    refine lc_it walk_keys (fun i H' => H' D = some (.lst ((List.replicate i true).map V.bl)) ∧ But d H H' ∧ H' d = some (.frz od (.dK (kv l)))) ⟨upd_same, ?_, ?_⟩ (fun i H' _ hP => hP.2.2) ?_ ?_
    · intro b o e n
      have nb : b ≠ D := by
        rintro rfl
        rw [upd_ne n, e] at hD
        cases hD
      rw [upd_ne nb, upd_ne n]
      exact e
    · rw [upd_ne nD.symm]
      exact upd_same
    · rintro i x H1 H2 hi ⟨p1, p2, p3⟩ ⟨rfl, k, v, e, rfl⟩
      obtain ⟨p, ep, rfl, rfl⟩ := kv_at e
      have hp : p ∈ l := List.mem_of_getElem? ep
      rw [kv_len] at hi
      refine ⟨rfl, ?_⟩
      refine ⟨_, rfl, p.1, rfl, (hv.wd p hp).1, (hv.wd p hp).2, true, rfl, iteT ?_⟩
      refine ⟨_, rfl, _, rfl, d, .int p.2, rfl, .inl ⟨kv l, Sum.inr p.1, .inr ⟨od, p3⟩, rfl, ?_⟩, ?_⟩
      · rw [valV_yes (has_of ep), num_of hv.nd ep]
      · refine ⟨_, rfl, _, _, rfl, rfl, p.2, 1, c - 1, rfl, ?_⟩
        have hn := hv.nu p hp
        rw [decide_eq_true (show (1 : Int) ≤ p.2 from hn.1), decide_eq_true (show p.2 ≤ c - 1 by omega)]
        refine ⟨_, p1, ?_, ?_, ?_, ?_⟩
        · rw [List.length_map, List.length_replicate]
          omega
        · rw [upd_same, List.replicate_succ', List.map_append]
          rfl
        · intro b o e n
          have nb : b ≠ D := by
            rintro rfl
            rw [upd_ne n, e] at hD
            cases hD
          rw [upd_ne nb]
          exact p2 b o e n
        · rw [upd_ne nD.symm]
          exact p3
    · rintro H' ⟨p1, p2, p3⟩
      refine ⟨p3, D, List.replicate (kv l).length true, rfl, .inl (.inl ?_), ?_⟩
      · rw [upd_ne nD]
        exact p1
      · have e1 : (List.replicate (kv l).length true).all id = true := by
          rw [List.all_eq_true]
          intro b hb
          exact (List.mem_replicate.mp hb).2
        rw [e1]
        refine q _ fun b o e => ?_
        by_cases n : b = d
        · rw [n, upd_same, ← hd, ← n, e]
        · rw [upd_ne n]
          exact p2 b o e n
end
end Fp

set_option Elab.async false
set_option linter.all false
set_option maxRecDepth 100000
set_option maxHeartbeats 2000000
namespace L2
open PySem PySem.Spec PyProof.Rows
section
variable {X : Cx}
def rEqP (K : PySem.W.Frag) : R2 := fun x y H Q => ∃ d e, Dp K H x d ∧ Dp K H y e ∧ d.plain = true ∧ e.plain = true ∧ d.depth ≤ 64 ∧ Q (.bl (PyData.eqv d e)) H
theorem op_eqP (hu : X.A.units + 64 < cLine) : OpR X (compareOp .Eq) (rEqP X.K) := by
  intro pins s σ H x y v u Q I rx ry h
  obtain ⟨d, e, hd, he, sd, se, hdp, q⟩ := h
  obtain ⟨as, r1⟩ := Dp.reads I d x v hd rx
  obtain ⟨bs, r2⟩ := Dp.reads I e y u he ry
  exact SeqAt.eq_plain r1 r2 sd se (by omega) ⟨.bl _, H, I, rfl, q⟩
end
end L2
namespace Fp
open PySem PySem.Spec PyProof.Rows L2
/-! ### the tuple of pairs -/
def WordsAt (H : Hp) (t : Addr) (L : Tb) : Prop := ∃ (ps : List Addr) (o : Obj), H t = some (.frz o (.tup (ps.map V.ref))) ∧ PlainTup o ∧ Paired (fun p (q : Str × Int) => H p = some (.tup [.str q.1, .int q.2])) ps L
theorem WordsAt.but {a : Addr} {H H' : Hp} {t : Addr} {L : Tb} (h : WordsAt H t L) (k : But a H H') (ht : t ≠ a) (ha : ∀ xs, H a ≠ some (.tup xs)) : WordsAt H' t L := by
  obtain ⟨ps, o, h1, h2, h3⟩ := h
  exact ⟨ps, o, k _ _ h1 ht, h2, Paired.mapP h3 fun p q e => k _ _ e fun z => ha _ (z ▸ e)⟩
theorem WordsAt.same {H H' : Hp} {t : Addr} {L : Tb} (h : WordsAt H t L) (k : Same H H') : WordsAt H' t L := by
  obtain ⟨ps, o, h1, h2, h3⟩ := h
  exact ⟨ps, o, k _ _ h1, h2, Paired.mapP h3 fun p q e => k _ _ e⟩
/-- a table in the order of words -/
def ordW (l : Tb) : List Str := (l.map (·.1)).mergeSort leR
def canon (l : Tb) : Tb := (ordW l).map fun x => (x, num l x)
theorem ordW_len (l : Tb) : (ordW l).length = l.length := by
  unfold ordW
  rw [List.length_mergeSort, List.length_map]
theorem ordW_mem {l : Tb} {x : Str} : x ∈ ordW l ↔ x ∈ l.map (·.1) := by
  unfold ordW
  exact (List.mergeSort_perm _ _).mem_iff
/-- what a Bag is -/
def flds (c : Int) (t : Addr) : List (Str × V) := putF "words" (.ref t) (putF "clock" (.int c) [])
theorem kwc : ¬ (("clock" : Str) = "words") := by decide +kernel
theorem flds_eq (c : Int) (t : Addr) : flds c t = ([("clock", V.int c), ("words", V.ref t)] : List (Str × V)) := by
  show (if ("clock" : Str) = "words" then [(("words" : Str), V.ref t)] else (("clock" : Str), V.int c) :: putF "words" (.ref t) []) = _
  rw [if_neg kwc]
  all_goals rfl
theorem flds_clock (c : Int) (t : Addr) : (flds c t).lookup ("clock" : Str) = some (.int c) := by
  unfold flds
  rw [lookup_putF, if_neg kwc, lookup_putF, if_pos rfl]
theorem flds_words (c : Int) (t : Addr) : (flds c t).lookup ("words" : Str) = some (.ref t) := by
  unfold flds
  rw [lookup_putF, if_pos rfl]
def BagAt (K : PySem.W.Frag) (H : Hp) (b : Addr) (c : Int) (L : Tb) : Prop := ∃ dx t, H b = some (.ins (He.ga K "Bag") dx (flds c t)) ∧ WordsAt H t L
theorem BagAt.same {K : PySem.W.Frag} {H H' : Hp} {b : Addr} {c : Int} {L : Tb} (h : BagAt K H b c L) (k : Same H H') : BagAt K H' b c L := by
  obtain ⟨dx, t, h1, h2⟩ := h
  exact ⟨dx, t, k _ _ h1, h2.same k⟩
theorem BagAt.but {K : PySem.W.Frag} {a : Addr} {H H' : Hp} {b : Addr} {c : Int} {L : Tb} (h : BagAt K H b c L) (k : But a H H') (ha : ∃ xs, H a = some (.lst xs)) : BagAt K H' b c L := by
  obtain ⟨dx, t, h1, h2⟩ := h
  obtain ⟨xs, hx⟩ := ha
  obtain ⟨ps, o, e1, e2⟩ := id h2
  exact ⟨dx, t, k _ _ h1 (ne_of h1 hx (by intro z; cases z)), h2.but k (ne_of e1 hx (by intro z; cases z)) fun ys => by rw [hx]; intro z; cases z⟩
def dW (L : Tb) : PyData := .tuple (L.map fun p => .tuple [.str p.1, .int p.2])
theorem dp_words {K : PySem.W.Frag} {H : Hp} {t : Addr} {L : Tb} (h : WordsAt H t L) : Dp K H (.ref t) (dW L) := by
  obtain ⟨ps, o, h1, _, h3⟩ := h
  refine .tup (.inl (.inr ⟨o, h1⟩)) ?_
  clear h1
  induction h3 with
  | nil => exact .nil
  | cons e _ ih => exact .cons (.tup (.inl (.inl e)) (.cons (.str _) (.cons (.int _) .nil))) ih
theorem dW_plain (L : Tb) : (dW L).plain = true := by
  show PyData.plainAll (L.map fun p => .tuple [.str p.1, .int p.2]) = true
  induction L with
  | nil => rfl
  | cons p r ih =>
    rw [List.map_cons]
    simp only [PyData.plainAll, PyData.plain, Bool.and_self, Bool.true_and]
    exact ih
theorem dW_depth (L : Tb) : (dW L).depth ≤ 64 := by
  have h : PyData.depthAll (L.map fun p => PyData.tuple [.str p.1, .int p.2]) ≤ 3 := by
    induction L with
    | nil => simp [PyData.depthAll]
    | cons p r ih =>
      rw [List.map_cons]
      simp only [PyData.depthAll, PyData.depth]
      have : max 0 (max 0 0) = 0 := rfl
      omega
  show (PyData.tuple _).depth ≤ 64
  simp only [PyData.depth]
  omega
theorem dW_eqv : ∀ L M : Tb, PyData.eqv (dW L) (dW M) = decide (L = M) := by
  intro L M
  show PyData.eqvAll (L.map fun p => PyData.tuple [.str p.1, .int p.2]) (M.map fun p => PyData.tuple [.str p.1, .int p.2]) = decide (L = M)
  induction L generalizing M with
  | nil =>
    cases M with
    | nil => rfl
    | cons q s => simp [PyData.eqvAll]
  | cons p r ih =>
    cases M with
    | nil => simp [PyData.eqvAll]
    | cons q s =>
      rw [List.map_cons, List.map_cons]
      simp only [PyData.eqvAll, PyData.eqv, ih s]
      obtain ⟨x, n⟩ := p
      obtain ⟨y, m⟩ := q
      by_cases h1 : x = y <;> by_cases h2 : n = m <;> by_cases h3 : r = s <;> simp [h1, h2, h3]
section
variable {P : Program} {w : World} {K : PySem.W.Frag} {mg : Str → Option Value} {base : Heap}
def spPairs : Sp := fun vs H Q _ => ∃ (d : Addr) (l : Tb), vs = [.ref d] ∧ H d = some (.dK (kv l)) ∧ Nd l ∧ (∀ p ∈ l, p.1.length ≤ 1000000) ∧ l.length ≤ 1000000 ∧ ∀ H' t, Same H H' → H t = none → WordsAt H' t (canon l) → Q (.ref t) H'
abbrev nPairs : List Str := ["table", "word"]
theorem sc_pairs_of : FnScope nPairs ["table"] (defScope s_pairs_of) := ⟨rfl, rfl, rfl, by decide +kernel, rfl, by decide +kernel, by decide +kernel⟩
theorem ok_pairs_of (T : Top K mg) : Ok P w K mg base 2 "pairs_of" ["table"] spPairs := by
  obtain ⟨fd, F⟩ := fn_pairs_of T
  obtain ⟨fdR, FR⟩ := fn_rank_of T
  refine ⟨⟨fd, ?_, F.bindsN fun _ _ _ _ _ _ us hl => match us, hl with | [_], _ => rfl⟩, g_pairs_of T, F.kp⟩
  refine F.ok sc_pairs_of (fun vs H Q E h => ?_) (fun cdv A outer s H vs Q E hr h => ?_)
  · obtain ⟨d, l, rfl, _⟩ := h
    rfl
  · obtain ⟨d, l, rfl, hd, hnd, hwl, hll, q⟩ := h
    have hu := hu_of hr
    have nd := sc_pairs_of.nd
    have hs : sizeLine = 16777216 := sizeLine_eq
    refine ⟨_, PSs.nox (pss_one (ps_ret (pe_callTy call_tupleF (by rfl) (f_tuple T) (by decide +kernel) (pa_cons (pe_lc (own := [("word", 1)]) (g := gName 1) (tt := tYes) rfl nd
      (pi_list (pe_callBK (cr_sortRk rfl FR (f_len T) hr) (by rfl) (f_sorted T) (by decide +kernel) (pa_cons (pv 0) pa_nil) (pk_cons (pe_glob (v := .ref (He.ga K "rank_of")) rfl (g_rank_of T) rfl) pk_nil)))
      (blkOk_by (N := nPairs) (sc := defScope s_pairs_of) (by decide +kernel)) (fun _ _ _ _ _ => pg_name (i := 1) nd rfl (Or.inl rfl)) (fun _ _ _ _ _ => pts_nil)
      (fun _ _ _ _ _ => pe_tup (pa_cons (pv 1) (pa_cons (pe_dget hu (pv 0) (pv 1) (fun _ _ => rfl)) pa_nil)))) pa_nil)))), ?_⟩
    refine ⟨_, rfl, d, kv l, l.map (·.1), rfl, rfl, .inl hd, kv_keys l, ?_, fun S hS => ?_⟩
    · intro x hx
      obtain ⟨p, hp, rfl⟩ := List.mem_map.mp hx
      have := hwl p hp
      omega
    · refine ⟨S, rfl, ⟨_, .inl (.inl upd_same)⟩, fun D hD => ?_⟩
      have nDS : D ≠ S := fun e => by
        rw [e, upd_same] at hD
        cases hD
      have hD0 : H D = none := by
        rw [upd_ne nDS] at hD
        exact hD
      have nSd : d ≠ S := ne_of_none hd hS
      have nDd : d ≠ D := ne_of_none hd hD0
      refine lc_it (walk_list (xs := (ordW l).map V.str)) (fun i H' => ∃ ps : List Addr, H' D = some (.lst (ps.map V.ref)) ∧ ps.length = i ∧ Paired (fun p (q : Str × Int) => H' p = some (.tup [.str q.1, .int q.2])) ps ((canon l).take i) ∧ Same H H' ∧ H' S = some (.lst ((ordW l).map V.str)))
        ⟨[], upd_same, rfl, .nil, ?_, ?_⟩ (fun i H' _ hP => .inl (.inl hP.choose_spec.2.2.2.2)) ?_ ?_
      · intro b o e
        rw [upd_ne (ne_of_none e hD0), upd_ne (ne_of_none e hS)]
        exact e
      · rw [upd_ne nDS.symm]
        exact upd_same
      · rintro i x H1 H2 hi ⟨ps, p1, p2, p3, p4, p5⟩ ⟨rfl, e⟩
        rw [List.length_map, ordW_len] at hi
        rw [List.getElem?_map] at e
        cases ew : (ordW l)[i]? with
        | none => rw [ew] at e; cases e
        | some x0 =>
          rw [ew] at e
          have e2 : V.str x0 = x := Option.some.inj e
          subst e2
          have hx0 : x0 ∈ l.map (·.1) := ordW_mem.mp (List.mem_of_getElem? ew)
          refine ⟨rfl, ?_⟩
          refine ⟨_, rfl, _, rfl, _, rfl, d, .int (num l x0), rfl, .inl ⟨kv l, Sum.inr x0, .inl (p4 _ _ hd), rfl, (valV_yes (has_iff.mpr hx0)).symm⟩, ?_⟩
          refine ⟨by show 2 ≤ sizeLine; omega, fun p hp => ?_⟩
          have npD : D ≠ p := ne_of_none p1 hp
          have npS : S ≠ p := ne_of_none p5 hp
          refine ⟨ps.map V.ref, ?_, ?_, ps ++ [p], ?_, ?_, ?_, ?_, ?_⟩
          · rw [upd_ne npD]
            exact p1
          · rw [List.length_map]
            omega
          · rw [upd_same, List.map_append]
            rfl
          · rw [List.length_append, p2]
            rfl
          · have ec : (canon l).take (i + 1) = (canon l).take i ++ [(x0, num l x0)] := by
              rw [List.take_add_one]
              unfold canon
              rw [List.getElem?_map, ew]
              rfl
            rw [ec]
            refine Paired.snoc (Paired.mapP p3 fun a b z => ?_) ?_
            · have na : a ≠ D := ne_of z p1 (by intro y; cases y)
              rw [upd_ne na, upd_ne (ne_of_none z hp)]
              exact z
            · rw [upd_ne npD.symm]
              exact upd_same
          · intro b o z
            have nb : b ≠ D := ne_of_none z hD0
            rw [upd_ne nb, upd_ne (ne_of_none (p4 b o z) hp)]
            exact p4 b o z
          · rw [upd_ne nDS.symm, upd_ne npS]
            exact p5
      · rintro H' ⟨ps, p1, p2, p3, p4, p5⟩
        have en : ((ordW l).map V.str).length = (canon l).length := by
          unfold canon
          rw [List.length_map, List.length_map]
        rw [en, List.take_length] at p3
        refine ⟨D, ps.map V.ref, rfl, .inl (.inl p1), fun t o ht hpt => ?_⟩
        have ht0 : H t = none := by
          cases z : H t with
          | none => rfl
          | some u =>
            rw [p4 t u z] at ht
            cases ht
        refine q _ t (p4.trans (same_upd ht)) ht0 ⟨ps, o, upd_same, hpt, Paired.mapP p3 fun a b z => ?_⟩
        rw [upd_ne (ne_of_none z ht)]
        exact z
end
end Fp

set_option Elab.async false
set_option linter.all false
set_option maxRecDepth 100000
set_option maxHeartbeats 2000000
namespace Fp
open PySem PySem.Spec PyProof.Rows L2
section
variable {P : Program} {w : World} {K : PySem.W.Frag} {mg : Str → Option Value} {base : Heap}
def spInit (K : PySem.W.Frag) : Sp := fun vs H Q _ => ∃ (b d dx : Addr) (c : Int) (l : Tb), vs = [.ref b, .int c, .ref d] ∧ H b = some (.ins (He.ga K "Bag") dx []) ∧ isCk c ∧ H d = some (.dK (kv l)) ∧ VT c 12 300 l ∧
  ∀ H', But b H H' → BagAt K H' b c (canon l) → Q .non H'
abbrev nInit : List Str := ["self", "clock", "words"]
theorem sc_init : FnScope nInit nInit (defScope s_Bag__init__) := ⟨rfl, rfl, rfl, by decide +kernel, rfl, by decide +kernel, by decide +kernel⟩
theorem ok_init (T : Top K mg) : ∃ fd, FnOk P w K mg base CX0 5 (He.ma K (He.ga K "Bag") "__init__") fd nInit (spInit K) ∧ Binds K fd nInit [] := by
  obtain ⟨fd, F⟩ := fn_Bag__init__ T
  refine ⟨fd, ?_, F.bindsN fun _ _ _ _ _ _ us hl => match us, hl with | [_, _, _], _ => rfl⟩
  refine F.ok sc_init (fun vs H Q E h => ?_) (fun cdv A outer s H vs Q E hr h => ?_)
  · obtain ⟨b, d, dx, c, l, rfl, _⟩ := h
    rfl
  · obtain ⟨b, d, dx, c, l, rfl, hb, hc, hd, hv, q⟩ := h
    have hr2 : Room 2 _ := hr.mono (by decide)
    refine ⟨_, PSs.nox (pss_cons (ps_if (pt_not (pt_val (pc (ok_is_clock T) hr2 (pa_cons (pv 1) pa_nil)))) (pss_one ps_never) pss_nil)
      (pss_cons (ps_if (pt_not (pt_val (pc (ok_are_words T) hr (pa_cons (pv 1) (pa_cons (pv 2) pa_nil))))) (pss_one ps_never) pss_nil)
      (pss_cons (ps_fld (pv 0) (pv 1) rfl)
      (pss_one (ps_fld (pv 0) (pc (ok_pairs_of T) hr2 (pa_cons (pv 2) pa_nil)) rfl))))), ?_⟩
    refine ⟨_, rfl, c, rfl, hc, true, rfl, iteF ?_⟩
    refine ⟨_, rfl, _, rfl, c, d, l, rfl, hd, hv, fun H1 s1 => ⟨true, rfl, iteF ?_⟩⟩
    have nbd : b ≠ d := ne_of hb hd (by intro z; cases z)
    refine ⟨_, rfl, _, rfl, b, _, dx, [], rfl, s1 _ _ hb, cls_Bag T, na_Bag_clock T, by show 0 < 1000; decide, ?_⟩
    refine ⟨_, rfl, d, l, rfl, ?_, hv.nd, fun p hp => Nat.le_trans (hv.wd p hp).2 (by decide), Nat.le_trans hv.ln (by decide), fun H2 t s2 ht hw => ?_⟩
    · rw [upd_ne nbd.symm]
      exact s1 _ _ hd
    refine ⟨_, rfl, b, _, dx, _, rfl, s2 _ _ upd_same, cls_Bag T, na_Bag_words T, by show 1 < 1000; decide, ?_⟩
    have nt : t ≠ b := fun e => by
      rw [e, upd_same] at ht
      cases ht
    refine q _ (fun y o e n => ?_) ⟨dx, t, upd_same, ?_⟩
    · rw [upd_ne n]
      refine s2 _ _ ?_
      rw [upd_ne n]
      exact s1 _ _ e
    · exact hw.but (a := b) but_upd nt fun xs z => by
        rw [s2 _ _ upd_same] at z
        cases z
/-- Bag(c, d) -/
theorem pbag {X : Cx} {p pos : Pos} {e : Expr} {es : List Expr} {t : TA} (T : Top X.K X.mg) (hr : Room 6 X.A) (ha : PA X (e :: es) t) (hg : Gl X "Bag" := by rfl)
    (he : starEach (e :: es) X.env = (false, eval e X.env) :: starEach es X.env := by rfl) (hpl : (backTo pos (starEach es X.env)).any (·.1) = false := by rfl) : PE X (.Call (.Name "Bag" p) (e :: es) [] pos) (tMake (He.ga X.K "Bag") (spInit X.K) [] E0 t) := by
  obtain ⟨fd, F, b⟩ := ok_init (P := X.prog) (w := X.w) (base := X.base) T
  exact pe_make (mk_Bag T) F hr hg (g_Bag T) b .nil pass0 ha (by decide) he hpl
theorem bag_made {K : PySem.W.Frag} {H : Hp} {d : Addr} {c : Int} {l : Tb} {Q : VK} (hc : isCk c) (hd : H d = some (.dK (kv l))) (hv : VT c 12 300 l) (h : ∀ H' b, Same H H' → H b = none → BagAt K H' b c (canon l) → Q (.ref b) H') :
    ∀ x dx, H x = none → H dx = none → dx ≠ x → spInit K (.ref x :: ([.int c, .ref d] ++ [])) (upd (upd H dx (.own x)) x (.ins (He.ga K "Bag") dx [])) (fun v H2 => v = .non ∧ Q (.ref x) H2) E0 := fun x dx hx hdx ne => by
  refine ⟨x, d, dx, c, l, rfl, upd_same, hc, ?_, hv, fun H' k hb => ⟨rfl, h H' x (fun b o e => ?_) hx hb⟩⟩
  · rw [upd_ne (ne_of_none hd hx), upd_ne (ne_of_none hd hdx)]
    exact hd
  · refine k b o ?_ (ne_of_none e hx)
    rw [upd_ne (ne_of_none e hx), upd_ne (ne_of_none e hdx)]
    exact e
/-- what == answers -/
def spEqB (K : PySem.W.Frag) : Sp := fun vs H Q _ => ∃ (a : Addr) (y : V) (c : Int) (L : Tb), vs = [.ref a, y] ∧ BagAt K H a c L ∧
  ((∃ b c' M, y = .ref b ∧ BagAt K H b c' M ∧ Q (.bl (decide (c = c' ∧ L = M))) H) ∨ (∃ t, TyX K H y t ∧ PySem.W.kitOne K t (.ref (He.ga K "Bag")) = some false ∧ Q (.bl false) H))
abbrev nEq : List Str := ["self", "other"]
theorem sc_eq : FnScope nEq nEq (defScope s_Bag__eq__) := ⟨rfl, rfl, rfl, by decide +kernel, rfl, by decide +kernel, by decide +kernel⟩
theorem ok_eq (T : Top K mg) : ∃ fd, FnOk P w K mg base CX0 1 (He.ma K (He.ga K "Bag") "__eq__") fd nEq (spEqB K) ∧ Binds K fd nEq [] := by
  obtain ⟨fd, F⟩ := fn_Bag__eq__ T
  refine ⟨fd, ?_, F.bindsN fun _ _ _ _ _ _ us hl => match us, hl with | [_, _], _ => rfl⟩
  refine F.ok sc_eq (fun vs H Q E h => ?_) (fun cdv A outer s H vs Q E hr h => ?_)
  · obtain ⟨a, y, c, L, rfl, _⟩ := h
    rfl
  · obtain ⟨a, y, c, L, rfl, ⟨dx, t, ha, hw⟩, h⟩ := h
    refine ⟨_, PSs.nox (pss_one (ps_ret (pe_and (pe_callB call_isi (by rfl) (f_isinstance T) (by decide +kernel) (pa_cons (pv 1) (pa_cons (pe_glob (v := .ref (He.ga K "Bag")) rfl (g_Bag T) rfl) pa_nil)))
      (pe_and (pe_cmpR op_eq (pe_fld (pv 0) rfl) (pe_fld (pv 1) rfl) (nomark _)) (pe_one (pe_cmpR (op_eqP hr.units) (pe_fld (pv 0) rfl) (pe_fld (pv 1) rfl) (nomark _))))))), ?_⟩
    rcases h with ⟨b, c', M, rfl, ⟨dy, t', hb, hw'⟩, q⟩ | ⟨ty, hty, hk, q⟩
    · refine ⟨_, rfl, _, _, _, _, true, rfl, .own _, .base (.ins hb (cls_Bag T) (x_class T) (x_get T) (x_takes T) (x_mro T)), x_is T, true, rfl, iteT ?_⟩
      refine ⟨_, rfl, a, _, dx, _, _, rfl, ha, cls_Bag T, na_Bag_clock T, flds_clock _ _, _, rfl, b, _, dy, _, _, rfl, hb, cls_Bag T, na_Bag_clock T, flds_clock _ _, rfl, _, rfl, ?_⟩
      by_cases e : c = c'
      · rw [decide_eq_true (show V.int c = V.int c' by rw [e])]
        refine iteT ?_
        refine ⟨_, rfl, a, _, dx, _, _, rfl, ha, cls_Bag T, na_Bag_words T, flds_words _ _, _, rfl, b, _, dy, _, _, rfl, hb, cls_Bag T, na_Bag_words T, flds_words _ _, dW L, dW M, dp_words hw, dp_words hw', dW_plain L, dW_plain M, dW_depth L, ?_⟩
        rw [dW_eqv]
        have e2 : decide (c = c' ∧ L = M) = decide (L = M) := by simp [e]
        rw [e2] at q
        exact q
      · rw [decide_eq_false (show ¬ V.int c = V.int c' from fun z => e (by injection z))]
        refine iteF ?_
        rw [decide_eq_false (show ¬ (c = c' ∧ L = M) from fun z => e z.1)] at q
        exact q
    · exact ⟨_, rfl, y, _, ty, _, false, rfl, .own _, hty, hk, false, rfl, iteF q⟩
end
end Fp

set_option Elab.async false
set_option linter.all false
set_option maxRecDepth 100000
set_option maxHeartbeats 4000000
namespace Fp
open PySem PySem.Spec PyProof.Rows L2
/-! ### the law's own reckoning with tables -/
def putM (c : Int) (l : Tb) (x : Str) (n : Int) : Tb := if (num l x + n) % c = 0 then dropT l x else putT l x ((num l x + n) % c)
def plusM (c : Int) (l1 l2 : Tb) (f : Int) : Tb := l2.foldl (fun acc p => putM c acc p.1 (f * p.2)) l1
def prodM (c : Int) (l1 l2 : Tb) : Tb := l1.foldl (fun acc p => l2.foldl (fun acc q => putM c acc (p.1 ++ q.1) (p.2 * q.2)) acc) []
theorem num_eq (l : Tb) (x : Str) : (valV (kv l) (Sum.inr x : Key)).getD (.int 0) = .int (num l x) := by
  cases e : has l x with
  | true => rw [valV_yes e] <;> rfl
  | false =>
    obtain ⟨h1, h2⟩ := valV_no e
    rw [h1, h2] <;> rfl
theorem dropT_no {l : Tb} {x : Str} (h : has l x = false) : dropT l x = l := by
  unfold dropT
  rw [List.filter_eq_self]
  intro p hp
  simp only [decide_eq_true_eq]
  intro e
  have : has l x = true := has_iff.mpr (List.mem_map.mpr ⟨p, hp, e⟩)
  rw [h] at this
  cases this
theorem len_putM (c : Int) (l : Tb) (x : Str) (n : Int) : (putM c l x n).length ≤ l.length + 1 := by
  unfold putM
  split
  · exact Nat.le_succ_of_le (List.length_filter_le _ _)
  · exact len_put _ _ _
theorem vt_putM {c : Int} {m k : Nat} {l : Tb} (hc : 0 < c) (hv : VT c m k l) {x : Str} (hx : xyz x) (hl : x.length ≤ m) (n : Int) : VT c m (k + 1) (putM c l x n) := by
  have h1 := Int.emod_nonneg (num l x + n) (show c ≠ 0 by omega)
  have h2 := Int.emod_lt_of_pos (num l x + n) hc
  refine ⟨?_, fun p hp => ?_, fun p hp => ?_, Nat.le_trans (len_putM c l x n) (Nat.succ_le_succ hv.ln)⟩
  · unfold putM
    split
    · exact nd_drop hv.nd x
    · exact nd_put hv.nd x _
  · unfold putM at hp
    split at hp
    · exact hv.nu p (List.mem_filter.mp hp).1
    · rename_i h0
      rcases mem_put hp with rfl | hp
      · exact ⟨by show 1 ≤ (num l x + n) % c; omega, h2⟩
      · exact hv.nu p hp
  · unfold putM at hp
    split at hp
    · exact hv.wd p (List.mem_filter.mp hp).1
    · rcases mem_put hp with rfl | hp
      · exact ⟨hx, hl⟩
      · exact hv.wd p hp
theorem vt_plusM {c : Int} {m k1 k2 : Nat} {l1 l2 : Tb} (hc : 0 < c) (h1 : VT c m k1 l1) (h2 : VT c m k2 l2) (f : Int) : VT c m (k1 + k2) (plusM c l1 l2 f) := by
  have key : ∀ (r : Tb) (acc : Tb) (k : Nat), (∀ p ∈ r, xyz p.1 ∧ p.1.length ≤ m) → VT c m k acc → VT c m (k + r.length) (r.foldl (fun acc p => putM c acc p.1 (f * p.2)) acc) := by
    intro r
    induction r with
    | nil => intro acc k _ h; exact h
    | cons p r ih =>
      intro acc k hw h
      have hp := hw p List.mem_cons_self
      have := ih _ (k + 1) (fun q hq => hw q (List.mem_cons_of_mem _ hq)) (vt_putM hc h hp.1 hp.2 (f * p.2))
      rw [List.length_cons, List.foldl_cons]
      exact this.mono (Nat.le_refl _) (by omega)
  exact (key l2 l1 k1 h2.wd h1).mono (Nat.le_refl _) (Nat.add_le_add_left h2.ln _)
theorem xyz_app {x y : Str} (hx : xyz x) (hy : xyz y) : xyz (x ++ y) := by
  intro c hc
  have e : (x ++ y).cps.toList = x.cps.toList ++ y.cps.toList := by
    show (x.cps ++ y.cps).toList = _
    simp
  rw [e] at hc
  rcases List.mem_append.mp hc with hc | hc
  · exact hx c hc
  · exact hy c hc
theorem len_app (x y : Str) : (x ++ y).length = x.length + y.length := by
  show (x.cps ++ y.cps).size = _
  simp [Str.length]
theorem vt_inner {c : Int} {m1 m2 : Nat} (hc : 0 < c) {p : Str × Int} (hp : xyz p.1 ∧ p.1.length ≤ m1) : ∀ (r : Tb) (acc : Tb) (k : Nat), (∀ q ∈ r, xyz q.1 ∧ q.1.length ≤ m2) → VT c (m1 + m2) k acc →
    VT c (m1 + m2) (k + r.length) (r.foldl (fun acc q => putM c acc (p.1 ++ q.1) (p.2 * q.2)) acc) := by
  intro r
  induction r with
  | nil => intro acc k _ h; exact h
  | cons q r ih =>
    intro acc k hw h
    have hq := hw q List.mem_cons_self
    have := ih _ (k + 1) (fun q hq => hw q (List.mem_cons_of_mem _ hq)) (vt_putM hc h (xyz_app hp.1 hq.1) (by rw [len_app]; exact Nat.add_le_add hp.2 hq.2) (p.2 * q.2))
    rw [List.length_cons, List.foldl_cons]
    exact this.mono (Nat.le_refl _) (by omega)
theorem vt_outer {c : Int} {m1 m2 : Nat} (hc : 0 < c) {l2 : Tb} (h2 : ∀ q ∈ l2, xyz q.1 ∧ q.1.length ≤ m2) : ∀ (r : Tb) (acc : Tb) (k : Nat), (∀ q ∈ r, xyz q.1 ∧ q.1.length ≤ m1) → VT c (m1 + m2) k acc →
    VT c (m1 + m2) (k + r.length * l2.length) (r.foldl (fun acc p => l2.foldl (fun acc q => putM c acc (p.1 ++ q.1) (p.2 * q.2)) acc) acc) := by
  intro r
  induction r with
  | nil => intro acc k _ h; simpa using h
  | cons q r ih =>
    intro acc k hw h
    have := ih _ (k + l2.length) (fun q hq => hw q (List.mem_cons_of_mem _ hq)) (vt_inner hc (hw q List.mem_cons_self) l2 acc k h2 h)
    rw [List.length_cons, List.foldl_cons]
    exact this.mono (Nat.le_refl _) (by rw [Nat.add_mul]; omega)
theorem vt_nil (c : Int) (m : Nat) : VT c m 0 [] := ⟨List.nodup_nil, fun p hp => (by cases hp), fun p hp => (by cases hp), Nat.le_refl _⟩
theorem vt_prodM {c : Int} {m1 m2 k1 k2 : Nat} {l1 l2 : Tb} (hc : 0 < c) (h1 : VT c m1 k1 l1) (h2 : VT c m2 k2 l2) : VT c (m1 + m2) (k1 * k2) (prodM c l1 l2) :=
  (vt_outer hc h2.wd l1 [] 0 h1.wd (vt_nil c _)).mono (Nat.le_refl _) (by rw [Nat.zero_add]; exact Nat.mul_le_mul h1.ln h2.ln)
theorem VT.of {c : Int} {m k m' k' : Nat} {l : Tb} (h : VT c m k l) (hm : ∀ p ∈ l, p.1.length ≤ m') (hk : l.length ≤ k') : VT c m' k' l := ⟨h.nd, h.nu, fun p hp => ⟨(h.wd p hp).1, hm p hp⟩, hk⟩
section
variable {P : Program} {w : World} {K : PySem.W.Frag} {mg : Str → Option Value} {base : Heap}
def spPut : Sp := fun vs H Q _ => ∃ (c : Int) (d : Addr) (x : Str) (n : Int) (l : Tb), vs = [.int c, .ref d, .str x, .int n] ∧ 0 < c ∧ H d = some (.dK (kv l)) ∧ l.length ≤ 1000000 ∧
  ∀ H', But d H H' → H' d = some (.dK (kv (putM c l x n))) → Q .non H'
abbrev nPut : List Str := ["_law_clock_here", "_law_bag", "_law_word_here", "_law_number", "_law_total"]
def spPlus : Sp := fun vs H Q _ => ∃ (c : Int) (d1 d2 : Addr) (f : Int) (l1 l2 : Tb), vs = [.int c, .ref d1, .ref d2, .int f] ∧ 0 < c ∧ c ≤ 7 ∧ H d1 = some (.dK (kv l1)) ∧ H d2 = some (.dK (kv l2)) ∧ Nd l2 ∧ (∀ p ∈ l2, 1 ≤ p.2 ∧ p.2 < c) ∧ l1.length ≤ 900000 ∧ l2.length ≤ 100000 ∧
  ∀ H' d, Same H H' → H d = none → H' d = some (.dK (kv (plusM c l1 l2 f))) → Q (.ref d) H'
abbrev nPlus : List Str := ["_law_clock_here", "_law_one", "_law_other", "_law_factor", "_law_found", "_law_word_here"]
theorem len_plusM (c f : Int) : ∀ (l2 l1 : Tb), (plusM c l1 l2 f).length ≤ l1.length + l2.length
  | [], l1 => Nat.le_refl _
  | p :: r, l1 => by
    have h1 := len_plusM c f r (putM c l1 p.1 (f * p.2))
    have h2 := len_putM c l1 p.1 (f * p.2)
    have e : plusM c l1 (p :: r) f = plusM c (putM c l1 p.1 (f * p.2)) r f := rfl
    rw [e, List.length_cons]
    omega
theorem plusM_take (c f : Int) (l1 l2 : Tb) {i : Nat} {p : Str × Int} (e : l2[i]? = some p) : plusM c l1 (l2.take (i + 1)) f = putM c (plusM c l1 (l2.take i) f) p.1 (f * p.2) := by
  unfold plusM
  rw [List.take_add_one, e, List.foldl_append]
  rfl
end
end Fp

set_option Elab.async false
set_option linter.all false
set_option maxRecDepth 100000
set_option maxHeartbeats 4000000
namespace Fp
open PySem PySem.Spec PyProof.Rows L2
/-! ### the tape of the laws k77 to k92 -/
def TapeAt (ca : Addr) (H : Hp) (h : Addr) : Prop := ∃ (cs : List Int) (a l sd tn : Int), H h = some (.lst [.ref ca, .int a, .int l, .int sd, .int tn]) ∧ H ca = some (.lst (cs.map V.int)) ∧ 0 ≤ a
theorem TapeAt.ne {H : Hp} {h ca : Addr} {cs : List Int} {a l sd tn : Int} (h1 : H h = some (.lst [.ref ca, .int a, .int l, .int sd, .int tn])) (h2 : H ca = some (.lst (cs.map V.int))) : ca ≠ h := by
  refine ne_of h2 h1 fun z => ?_
  injection z with z
  cases cs with
  | nil => cases z
  | cons c r =>
    rw [List.map_cons] at z
    injection z with z1
    cases z1
theorem TapeAt.lst {ca : Addr} {H : Hp} {h : Addr} (x : TapeAt ca H h) : ∃ xs, H h = some (.lst xs) := by
  obtain ⟨cs, a, l, sd, tn, h1, _⟩ := x
  exact ⟨_, h1⟩
theorem TapeAt.cells {ca : Addr} {H : Hp} {h : Addr} (x : TapeAt ca H h) : ∃ xs, H ca = some (.lst xs) := by
  obtain ⟨cs, a, l, sd, tn, h1, h2, _⟩ := x
  exact ⟨_, h2⟩
theorem TapeAt.same {ca : Addr} {H H' : Hp} {h : Addr} (x : TapeAt ca H h) (k : Same H H') : TapeAt ca H' h := by
  obtain ⟨cs, a, l, sd, tn, h1, h2, r⟩ := x
  exact ⟨cs, a, l, sd, tn, k _ _ h1, k _ _ h2, r⟩
theorem TapeAt.off {ca : Addr} {H H' : Hp} {h d : Addr} (x : TapeAt ca H h) (k : But d H H') (h1 : h ≠ d) (h2 : ca ≠ d) : TapeAt ca H' h := by
  obtain ⟨cs, a, l, sd, tn, g1, g2, r⟩ := x
  exact ⟨cs, a, l, sd, tn, k _ _ g1 h1, k _ _ g2 h2, r⟩
theorem TapeAt.neD {ca : Addr} {H : Hp} {h d : Addr} {kvs : List (Key × V)} (x : TapeAt ca H h) (hd : H d = some (.dK kvs)) : d ≠ h := by
  obtain ⟨xs, hx⟩ := x.lst
  exact ne_of hd hx (by intro z; cases z)
/-- a new thing stands apart from the tape -/
theorem TapeAt.fresh {ca : Addr} {H : Hp} {h d : Addr} (x : TapeAt ca H h) (hd : H d = none) : d ≠ h ∧ d ≠ ca := by
  obtain ⟨xs, hx⟩ := x.lst
  obtain ⟨ys, hy⟩ := x.cells
  exact ⟨(ne_of_none hx hd).symm, (ne_of_none hy hd).symm⟩
section
variable {P : Program} {w : World} {K : PySem.W.Frag} {mg : Str → Option Value} {base : Heap}
def spTape (K : PySem.W.Frag) : Sp := fun vs H Q _ => ∃ (a : Addr) (ns : List Int), vs = [.ref a] ∧ SqL K H a (ns.map V.int) ∧ ∀ H' h ca, Same H H' → TapeAt ca H' h → Q (.ref h) H'
abbrev nTape : List Str := ["_law_script"]
theorem sc_tape : FnScope nTape ["_law_script"] (defScope s__law_tape) := ⟨rfl, rfl, rfl, by decide +kernel, rfl, by decide +kernel, by decide +kernel⟩
theorem ok_tape (T : Top K mg) : Ok P w K mg base 1 "_law_tape" ["_law_script"] (spTape K) := by
  obtain ⟨fd, F⟩ := fn__law_tape T
  refine ⟨⟨fd, ?_, F.bindsN fun _ _ _ _ _ _ us hl => match us, hl with | [_], _ => rfl⟩, g__law_tape T, F.kp⟩
  refine F.ok sc_tape (fun vs H Q E h => ?_) (fun cdv A outer s H vs Q E hr h => ?_)
  · obtain ⟨a, ns, rfl, _⟩ := h
    rfl
  · obtain ⟨a, ns, rfl, hS, q⟩ := h
    have nd := sc_tape.nd
    have hs : sizeLine = 16777216 := sizeLine_eq
    refine ⟨_, PSs.nox (pss_one (ps_ret (pe_lst (pa_cons (pe_callTy call_list_of (by rfl) (f_list T) (by decide +kernel) (pa_cons (pv 0) pa_nil)) (pa_cons pe_int (pa_cons pe_int (pa_cons pe_int (pa_cons pe_int pa_nil)))))))), ?_⟩
    refine ⟨_, rfl, a, _, rfl, .inl hS, fun l hl => ?_⟩
    have s1 := same_upd (o := .lst (ns.map V.int)) hl
    refine ⟨by show 5 ≤ sizeLine; omega, fun p np => ?_⟩
    have e1 : (upd H l (.lst (ns.map V.int))) l = some (.lst (ns.map V.int)) := upd_same
    exact q _ p l (s1.trans (same_upd np)) ⟨ns, 0, 0, 1, 0, upd_same, (by rw [upd_ne (ne_of_none e1 np)]; exact e1), by decide⟩
def spPick : Sp := fun vs H Q _ => ∃ (h ca : Addr) (n : Int), vs = [.ref h, .int n] ∧ 0 < n ∧ n < 1073741824 ∧ TapeAt ca H h ∧ ∀ (r : Int) (H' : Hp), 0 ≤ r → r < n → TapeAt ca H' h → But h H H' → Q (.int r) H'
abbrev nPick : List Str := ["_law_tape_here", "_law_many_here", "_law_digit", "_law_cell", "_law_mixed"]
theorem sc_pick : FnScope nPick ["_law_tape_here", "_law_many_here"] (defScope s__law_pick) := ⟨rfl, rfl, rfl, by decide +kernel, rfl, by decide +kernel, by decide +kernel⟩
theorem ok_pick (T : Top K mg) : Ok P w K mg base 1 "_law_pick" ["_law_tape_here", "_law_many_here"] spPick := by
  obtain ⟨fd, F⟩ := fn__law_pick T
  refine ⟨⟨fd, ?_, F.bindsN fun _ _ _ _ _ _ us hl => match us, hl with | [_, _], _ => rfl⟩, g__law_pick T, F.kp⟩
  refine F.ok sc_pick (fun vs H Q E h => ?_) (fun cdv A outer s H vs Q E hr h => ?_)
  · obtain ⟨h, ca, n, rfl, _⟩ := h
    rfl
  · obtain ⟨h, ca, n, rfl, hn0, hn1, hh, q⟩ := h
    have nd := sc_pick.nd
    refine ⟨_, PSs.nox (pss_cons (ps_if (pt_cmpR op_gt (pe_ix ix_list (pv 0) pe_int (fun _ _ => rfl)) pe_int (nomark _))
        (pss_cons (ps_set (i := 2) nd rfl (Or.inl rfl) (pe_op op_mod (pe_callTy call_int1 (by rfl) (f_int T) boot_int (pa_cons (pe_ix ix_list (pv 0) pe_int (fun _ _ => rfl)) pa_nil)) (pv 1)))
        (pss_cons (ps_asg (pe_op op_fdiv (pe_ix ix_list (pv 0) pe_int (fun _ _ => rfl)) (pv 1)) (pg_sub (pv 0) pe_int set_list))
        (pss_one (ps_ret (pv 2))))) pss_nil)
      (pss_cons (ps_asg (pe_op op_add (pe_ix ix_list (pv 0) pe_int (fun _ _ => rfl)) pe_int) (pg_sub (pv 0) pe_int set_list))
      (pss_cons (ps_set (i := 3) nd rfl (Or.inl rfl) pe_int)
      (pss_cons (ps_if (pt_cmpR op_lt (pe_ix ix_list (pv 0) pe_int (fun _ _ => rfl)) (pe_callB call_len (by rfl) (f_len T) PySem.boot_len (pa_cons (pe_ix ix_list (pv 0) pe_int (fun _ _ => rfl)) pa_nil)) (nomark _))
        (pss_cons (ps_set (i := 3) nd rfl (Or.inl rfl) (pe_ix ix_list (pe_ix ix_list (pv 0) pe_int (fun _ _ => rfl)) (pe_ix ix_list (pv 0) pe_int (fun _ _ => rfl)) (fun _ _ => rfl)))
        (pss_one (ps_asg (pe_op op_add (pe_ix ix_list (pv 0) pe_int (fun _ _ => rfl)) pe_int) (pg_sub (pv 0) pe_int set_list)))) pss_nil)
      (pss_cons (ps_if (pt_cmpR op_ge (pv 3) (pe_op op_pow pe_int pe_int) (nomark _))
        (pss_cons (ps_asg (pe_op op_fdiv (pv 3) (pv 1)) (pg_sub (pv 0) pe_int set_list))
        (pss_one (ps_ret (pe_op op_mod (pe_callTy call_int1 (by rfl) (f_int T) boot_int (pa_cons (pv 3) pa_nil)) (pv 1))))) pss_nil)
      (pss_cons (ps_set (i := 4) nd rfl (Or.inl rfl) (pe_op op_mod (pe_callTy call_int1 (by rfl) (f_int T) boot_int (pa_cons (pe_op op_add (pe_op op_add (pe_op op_mul (pe_ix ix_list (pv 0) pe_int (fun _ _ => rfl)) pe_int) (pe_op op_mod (pe_callTy call_int1 (by rfl) (f_int T) boot_int (pa_cons (pv 3) pa_nil)) pe_int)) (pe_op op_mul (pe_ix ix_list (pv 0) pe_int (fun _ _ => rfl)) pe_int)) pa_nil)) pe_int))
      (pss_cons (ps_set (i := 4) nd rfl (Or.inl rfl) (pe_op op_mod (pe_callTy call_int1 (by rfl) (f_int T) boot_int (pa_cons (pe_op op_mul (pv 4) (pe_op op_add (pe_op op_fdiv (pv 4) pe_int) pe_int)) pa_nil)) pe_int))
      (pss_cons (ps_asg (pv 4) (pg_sub (pv 0) pe_int set_list))
      (pss_one (ps_ret (pe_op op_mod (pe_callTy call_int1 (by rfl) (f_int T) boot_int (pa_cons (pe_op op_fdiv (pv 4) pe_int) pa_nil)) (pv 1)))))))))))), ?_⟩
    obtain ⟨cs, a, l, sd, tn, h1, h2, h5⟩ := id hh
    have hne := TapeAt.ne h1 h2
    obtain ⟨k, rfl⟩ : ∃ k : Nat, a = k := ⟨a.toNat, (Int.toNat_of_nonneg h5).symm⟩
    refine ⟨_, rfl, h, _, 2, _, rfl, rfl, SqL.of h1, rfl, _, _, rfl, rfl, _, rfl, ?_⟩
    refine ite2 (fun hc => ?_) (fun hc => ?_)
    · refine ⟨_, rfl, h, _, 2, _, rfl, rfl, SqL.of h1, rfl, .inl ⟨_, rfl, _, rfl, _, _, rfl, rfl, hn0, _, rfl, h, _, 2, _, rfl, rfl, SqL.of h1, rfl, _, rfl, _, _, rfl, rfl, ⟨hn0, hn1⟩, _, rfl, h, _, 2, 2, rfl, rfl, h1, rfl, _, rfl, ?_⟩⟩
      exact q _ _ (Int.emod_nonneg _ (by omega)) (Int.emod_lt_of_pos _ hn0) ⟨cs, k, l / n, sd, tn, upd_same, by rw [upd_ne hne]; exact h2, h5⟩ but_upd
    refine ⟨_, rfl, h, _, 4, _, rfl, rfl, SqL.of h1, rfl, _, _, rfl, rfl, _, rfl, h, _, 4, 4, rfl, rfl, h1, rfl, ?_⟩
    have e1 : (upd H h (.lst [.ref ca, .int k, .int l, .int sd, .int (tn + 1)])) h = some (.lst [.ref ca, .int k, .int l, .int sd, .int (tn + 1)]) := upd_same
    have e2 : (upd H h (.lst [.ref ca, .int k, .int l, .int sd, .int (tn + 1)])) ca = some (.lst (cs.map V.int)) := by rw [upd_ne hne]; exact h2
    have kc : But h H (upd H h (.lst [.ref ca, .int k, .int l, .int sd, .int (tn + 1)])) := but_upd
    refine ⟨_, rfl, h, _, 1, _, rfl, rfl, SqL.of upd_same, rfl, _, rfl, h, _, 0, _, rfl, rfl, SqL.of upd_same, rfl, _, _, rfl, .inl ⟨_, SqL.of e2, rfl⟩, _, _, rfl, rfl, _, rfl, ?_⟩
    refine ite2 (fun ha => ?_) (fun ha => ?_)
    · have ha2 : k < cs.length := by
        have := of_decide_eq_true ha
        rw [List.length_map] at this
        omega
      have ek : (cs.map V.int)[k]? = some (.int cs[k]) := by
        rw [List.getElem?_map, List.getElem?_eq_getElem ha2]
        rfl
      generalize cs[k] = cell at ek
      refine ⟨_, rfl, h, _, 0, _, rfl, rfl, SqL.of e1, rfl, _, rfl, h, _, 1, _, rfl, rfl, SqL.of e1, rfl, ca, _, _, _, rfl, rfl, SqL.of e2, atI_nat ek, ?_⟩
      refine ⟨_, rfl, h, _, 1, _, rfl, rfl, SqL.of e1, rfl, _, _, rfl, rfl, _, rfl, h, _, 1, 1, rfl, rfl, e1, rfl, ?_⟩
      replace e2 : (upd (upd H h (.lst [.ref ca, .int k, .int l, .int sd, .int (tn + 1)])) h (.lst [.ref ca, .int ((k : Int) + 1), .int l, .int sd, .int (tn + 1)])) ca = some (.lst (cs.map V.int)) := by rw [upd_ne hne]; exact e2
      replace kc : But h H (upd (upd H h (.lst [.ref ca, .int k, .int l, .int sd, .int (tn + 1)])) h (.lst [.ref ca, .int ((k : Int) + 1), .int l, .int sd, .int (tn + 1)])) := kc.trans but_upd
      replace e1 : (upd (upd H h (.lst [.ref ca, .int k, .int l, .int sd, .int (tn + 1)])) h (.lst [.ref ca, .int ((k : Int) + 1), .int l, .int sd, .int (tn + 1)])) h = some (.lst [.ref ca, .int ((k : Int) + 1), .int l, .int sd, .int (tn + 1)]) := upd_same
      refine ⟨_, rfl, _, _, rfl, rfl, ⟨by decide, by decide, by decide⟩, _, _, rfl, rfl, _, rfl, ?_⟩
      refine ite2 (fun hg => ?_) (fun hg => ?_)
      · refine ⟨_, rfl, _, rfl, _, _, rfl, rfl, ⟨hn0, hn1⟩, _, rfl, h, _, 2, 2, rfl, rfl, e1, rfl, ?_⟩
        refine ⟨_, rfl, .inl ⟨_, rfl, _, rfl, _, _, rfl, rfl, hn0, ?_⟩⟩
        exact q _ _ (Int.emod_nonneg _ (by omega)) (Int.emod_lt_of_pos _ hn0) ⟨cs, _, _, _, _, upd_same, by rw [upd_ne hne]; exact e2, by omega⟩ (kc.trans but_upd)
      · refine ⟨_, rfl, h, _, 3, _, rfl, rfl, SqL.of e1, rfl, _, _, rfl, rfl, .inr ⟨by decide, by decide⟩, _, rfl, .inl ⟨_, rfl, _, _, rfl, rfl, (by show (0 : Int) < _; decide), _, _, rfl, rfl, _, rfl, h, _, 4, _, rfl, rfl, SqL.of e1, rfl, _, _, rfl, rfl, .inr ⟨by decide, by decide⟩, _, _, rfl, rfl, .inl ⟨_, rfl, _, _, rfl, rfl, (by show (0 : Int) < _; decide), ?_⟩⟩⟩
        refine ⟨_, rfl, _, rfl, _, _, rfl, rfl, ⟨by decide, by decide⟩, _, _, rfl, rfl, _, _, rfl, rfl, .inl ⟨Int.lt_of_lt_of_le (by decide) (Int.emod_nonneg _ (by decide)), Int.lt_trans (Int.emod_lt_of_pos _ (by decide)) (by decide)⟩, .inl ⟨_, rfl, _, _, rfl, rfl, (by show (0 : Int) < _; decide), ?_⟩⟩
        refine ⟨_, rfl, _, rfl, h, _, 3, 3, rfl, rfl, e1, rfl, ?_⟩
        refine ⟨_, rfl, _, _, rfl, rfl, ⟨by decide, by decide⟩, .inl ⟨_, rfl, _, rfl, _, _, rfl, rfl, hn0, ?_⟩⟩
        exact q _ _ (Int.emod_nonneg _ (by omega)) (Int.emod_lt_of_pos _ hn0) ⟨cs, _, _, _, _, upd_same, by rw [upd_ne hne]; exact e2, by omega⟩ (kc.trans but_upd)
    · refine ⟨_, rfl, _, _, rfl, rfl, ⟨by decide, by decide, by decide⟩, _, _, rfl, rfl, _, rfl, ?_⟩
      refine ite2 (fun hg => ?_) (fun hg => ?_)
      · refine ⟨_, rfl, _, rfl, _, _, rfl, rfl, ⟨hn0, hn1⟩, _, rfl, h, _, 2, 2, rfl, rfl, e1, rfl, ?_⟩
        refine ⟨_, rfl, .inl ⟨_, rfl, _, rfl, _, _, rfl, rfl, hn0, ?_⟩⟩
        exact q _ _ (Int.emod_nonneg _ (by omega)) (Int.emod_lt_of_pos _ hn0) ⟨cs, _, _, _, _, upd_same, by rw [upd_ne hne]; exact e2, by omega⟩ (kc.trans but_upd)
      · refine ⟨_, rfl, h, _, 3, _, rfl, rfl, SqL.of e1, rfl, _, _, rfl, rfl, .inr ⟨by decide, by decide⟩, _, rfl, .inl ⟨_, rfl, _, _, rfl, rfl, (by show (0 : Int) < _; decide), _, _, rfl, rfl, _, rfl, h, _, 4, _, rfl, rfl, SqL.of e1, rfl, _, _, rfl, rfl, .inr ⟨by decide, by decide⟩, _, _, rfl, rfl, .inl ⟨_, rfl, _, _, rfl, rfl, (by show (0 : Int) < _; decide), ?_⟩⟩⟩
        refine ⟨_, rfl, _, rfl, _, _, rfl, rfl, ⟨by decide, by decide⟩, _, _, rfl, rfl, _, _, rfl, rfl, .inl ⟨Int.lt_of_lt_of_le (by decide) (Int.emod_nonneg _ (by decide)), Int.lt_trans (Int.emod_lt_of_pos _ (by decide)) (by decide)⟩, .inl ⟨_, rfl, _, _, rfl, rfl, (by show (0 : Int) < _; decide), ?_⟩⟩
        refine ⟨_, rfl, _, rfl, h, _, 3, 3, rfl, rfl, e1, rfl, ?_⟩
        refine ⟨_, rfl, _, _, rfl, rfl, ⟨by decide, by decide⟩, .inl ⟨_, rfl, _, rfl, _, _, rfl, rfl, hn0, ?_⟩⟩
        exact q _ _ (Int.emod_nonneg _ (by omega)) (Int.emod_lt_of_pos _ hn0) ⟨cs, _, _, _, _, upd_same, by rw [upd_ne hne]; exact e2, by omega⟩ (kc.trans but_upd)
end
end Fp

set_option Elab.async false
set_option linter.all false
set_option maxRecDepth 100000
set_option maxHeartbeats 4000000
namespace Fp
open PySem PySem.Spec PyProof.Rows L2 TL
instance (w : Str) : Decidable (xyz w) := by unfold xyz; infer_instance
/-! ### words drawn -/
theorem join_signs : ∀ ys : List Str, (∀ y ∈ ys, ∃ c, y = ⟨#[c]⟩ ∧ (c = 120 ∨ c = 121 ∨ c = 122)) → xyz (PySem.Txt.join "" ys) ∧ (PySem.Txt.join "" ys).length = ys.length := by
  intro ys
  have h0 : ∀ zs : List Str, (∀ y ∈ zs, ∃ c, y = ⟨#[c]⟩ ∧ (c = 120 ∨ c = 121 ∨ c = 122)) → (∀ c ∈ joinL [] (zs.map tl), c = 120 ∨ c = 121 ∨ c = 122) ∧ (joinL [] (zs.map tl)).length = zs.length := by
    intro zs
    induction zs with
    | nil => intro _; exact ⟨fun c hc => (by cases hc), rfl⟩
    | cons y r ih =>
      intro h
      obtain ⟨c, rfl, hc⟩ := h y List.mem_cons_self
      obtain ⟨i1, i2⟩ := ih fun z hz => h z (List.mem_cons_of_mem _ hz)
      cases r with
      | nil =>
        refine ⟨fun d hd => ?_, rfl⟩
        have : d = c := by simpa [joinL, tl] using hd
        rw [this]
        exact hc
      | cons z r =>
        have e : joinL [] ((⟨#[c]⟩ :: z :: r : List Str).map tl) = c :: joinL [] ((z :: r).map tl) := rfl
        rw [e]
        refine ⟨fun d hd => ?_, by rw [List.length_cons, i2]; rfl⟩
        rcases List.mem_cons.mp hd with rfl | hd
        · exact hc
        · exact i1 d hd
  intro h
  obtain ⟨h1, h2⟩ := h0 ys h
  have e : tl (PySem.Txt.join "" ys) = joinL [] (ys.map tl) := by
    rw [join_eq, tl_join]
    rfl
  refine ⟨fun c hc => h1 c ?_, ?_⟩
  · rw [← e]
    exact hc
  · rw [len_tl, e, h2]
theorem vt_put {c : Int} {m k : Nat} {l : Tb} (hv : VT c m k l) {x : Str} (hx : xyz x) (hl : x.length ≤ m) {n : Int} (h1 : 1 ≤ n) (h2 : n < c) : VT c m (k + 1) (putT l x n) := by
  refine ⟨nd_put hv.nd x n, fun p hp => ?_, fun p hp => ?_, Nat.le_trans (len_put l x n) (Nat.succ_le_succ hv.ln)⟩
  · rcases mem_put hp with rfl | hp
    · exact ⟨h1, h2⟩
    · exact hv.nu p hp
  · rcases mem_put hp with rfl | hp
    · exact ⟨hx, hl⟩
    · exact hv.wd p hp
section
variable {P : Program} {w : World} {K : PySem.W.Frag} {mg : Str → Option Value} {base : Heap}
def spWrd : Sp := fun vs H Q _ => ∃ (h ca : Addr) (z : Str) (m : Nat), vs = [.ref h, .str z, .int m] ∧ TapeAt ca H h ∧ xyz z ∧ 1 ≤ z.length ∧ z.length ≤ 1000 ∧ m ≤ 1000 ∧ ∀ H' r, TapeAt ca H' h → But h H H' → xyz r → r.length ≤ m → Q (.str r) H'
abbrev nWrd : List Str := ["_law_tape_here", "_law_letters_here", "_law_most", "_law_turn"]
theorem sc_wrd : FnScope nWrd ["_law_tape_here", "_law_letters_here", "_law_most"] (defScope s__law_word) := ⟨rfl, rfl, rfl, by decide +kernel, rfl, by decide +kernel, by decide +kernel⟩
theorem ok_wrd (T : Top K mg) : Ok P w K mg base 3 "_law_word" ["_law_tape_here", "_law_letters_here", "_law_most"] spWrd := by
  obtain ⟨fd, F⟩ := fn__law_word T
  refine ⟨⟨fd, ?_, F.bindsN fun _ _ _ _ _ _ us hl => match us, hl with | [_, _, _], _ => rfl⟩, g__law_word T, F.kp⟩
  refine F.ok sc_wrd (fun vs H Q E h => ?_) (fun cdv A outer s H vs Q E hr h => ?_)
  · obtain ⟨h, ca, z, m, rfl, _⟩ := h
    rfl
  · obtain ⟨h, ca, z, m, rfl, hh, hz, hz1, hz2, hm, q⟩ := h
    have nd := sc_wrd.nd
    have hs : sizeLine = 16777216 := sizeLine_eq
    have hr1 : Room 1 _ := hr.mono (by decide)
    refine ⟨_, PSs.nox (pss_one (ps_ret (pe_join pe_str (pe_lc (own := [("_law_turn", 3)]) (g := gName 3) (tt := tYes) rfl nd (pi_range1 (by rfl) (f_range T) (pa_cons (pc (ok_pick T) hr1 (pa_cons (pv 0) (pa_cons (pe_op op_add (pv 2) pe_int) pa_nil))) pa_nil))
      (blkOk_by (N := nWrd) (sc := defScope s__law_word) (by decide +kernel)) (fun _ _ _ _ _ => pg_name (i := 3) nd rfl (Or.inl rfl)) (fun _ _ _ _ _ => pts_nil)
      (fun _ _ _ _ _ => pe_item_str (pv 1) (pc (ok_pick T) hr1 (pa_cons (pv 0) (pa_cons (pe_callB call_len_str (by rfl) (f_len T) PySem.boot_len (pa_cons (pv 1) pa_nil)) pa_nil))) (fun _ _ => rfl)))))), ?_⟩
    refine ⟨⟨_, rfl⟩, ?_⟩
    refine ⟨_, rfl, _, rfl, _, _, rfl, rfl, h, ca, (m : Int) + 1, rfl, by omega, by omega, hh, fun r1 H1 hr0 hr2 hh1 k1 => ?_⟩
    refine ⟨r1, rfl, by omega, by omega, fun D hD => ?_⟩
    have nhD : h ≠ D := by
      obtain ⟨xs, hx⟩ := hh1.lst
      exact ne_of_none hx hD
    have ncD : ca ≠ D := by
      obtain ⟨xs, hx⟩ := hh1.cells
      exact ne_of_none hx hD
    refine lc_it walk_range (fun i H' => (∃ ys : List Str, H' D = some (.lst (ys.map V.str)) ∧ ys.length = i ∧ ∀ y ∈ ys, ∃ c, y = ⟨#[c]⟩ ∧ (c = 120 ∨ c = 121 ∨ c = 122)) ∧ TapeAt ca H' h ∧ But h H1 H')
      ⟨⟨[], upd_same, rfl, fun y hy => (by cases hy)⟩, hh1.same (same_upd hD), But.of (same_upd hD)⟩ (fun _ _ _ _ => trivial) ?_ ?_
    · rintro i x H2 H3 hi ⟨⟨ys, p1, p2, p3⟩, p4, p5⟩ ⟨rfl, rfl⟩
      refine ⟨rfl, ?_⟩
      refine ⟨_, rfl, _, rfl, _, rfl, z, rfl, by omega, h, ca, (z.length : Int), rfl, by omega, by omega, p4, fun r2 H4 hr3 hr4 hh4 k4 => ?_⟩
      obtain ⟨n, rfl⟩ : ∃ n : Nat, r2 = n := ⟨r2.toNat, (Int.toNat_of_nonneg hr3).symm⟩
      have hn : n < z.cps.size := by
        have : z.length = z.cps.size := rfl
        omega
      refine ⟨z, _, z.cps[n], rfl, rfl, by omega, by omega, hr4, ?_, ?_⟩
      · rw [Int.toNat_natCast, Array.getElem?_eq_getElem hn]
      · refine ⟨_, k4 _ _ p1 nhD.symm, ?_, ⟨ys ++ [⟨#[z.cps[n]]⟩], ?_, ?_, ?_⟩, ?_, ?_⟩
        · rw [List.length_map]
          omega
        · rw [upd_same, List.map_append]
          rfl
        · rw [List.length_append, p2]
          rfl
        · intro y hy
          rcases List.mem_append.mp hy with hy | hy
          · exact p3 y hy
          · have : y = ⟨#[z.cps[n]]⟩ := by simpa using hy
            exact ⟨_, this, hz _ (by simp)⟩
        · exact hh4.off (d := D) but_upd nhD ncD
        · intro b o z' n'
          have nb : b ≠ D := ne_of_none z' hD
          rw [upd_ne nb]
          exact k4 b o (p5 b o z' n') n'
    · rintro H' ⟨⟨ys, p1, p2, p3⟩, p4, p5⟩
      obtain ⟨j1, j2⟩ := join_signs ys p3
      refine ⟨_, D, ys, rfl, rfl, .inl (.inl (.inl p1)), ?_, ?_⟩
      · have e : (ys.map (·.length)).sum = ys.length := by
          clear p1 p2 j1 j2
          induction ys with
          | nil => rfl
          | cons y r ih =>
            obtain ⟨c, rfl, _⟩ := p3 y List.mem_cons_self
            rw [List.map_cons, List.sum_cons, ih fun w hw => p3 w (List.mem_cons_of_mem _ hw), List.length_cons]
            show 1 + r.length = _
            omega
        rw [e]
        show ys.length + ys.length * 0 ≤ _
        omega
      · exact q H' _ p4 (fun b o z' n' => p5 b o (k1 b o z' n') n') j1 (by omega)
def spSparse : Sp := fun vs H Q _ => ∃ (h ca : Addr) (c : Int) (z : Str) (k m : Nat), vs = [.ref h, .int c, .str z, .int k, .int m] ∧ TapeAt ca H h ∧ 2 ≤ c ∧ c ≤ 7 ∧ xyz z ∧ 1 ≤ z.length ∧ z.length ≤ 1000 ∧ m ≤ 1000 ∧ k ≤ 1000 ∧
  ∀ H' d l, TapeAt ca H' h → But h H H' → H d = none → H' d = some (.dK (kv l)) → VT c m k l → Q (.ref d) H'
abbrev nSparse : List Str := ["_law_tape_here", "_law_clock_here", "_law_letters_here", "_law_many_here", "_law_most", "_law_found", "_law_turn", "_law_word_here"]
theorem sc_sparse : FnScope nSparse ["_law_tape_here", "_law_clock_here", "_law_letters_here", "_law_many_here", "_law_most"] (defScope s__law_sparse) := ⟨rfl, rfl, rfl, by decide +kernel, rfl, by decide +kernel, by decide +kernel⟩
theorem ok_sparse (T : Top K mg) : Ok P w K mg base 4 "_law_sparse" ["_law_tape_here", "_law_clock_here", "_law_letters_here", "_law_many_here", "_law_most"] spSparse := by
  obtain ⟨fd, F⟩ := fn__law_sparse T
  refine ⟨⟨fd, ?_, F.bindsN fun _ _ _ _ _ _ us hl => match us, hl with | [_, _, _, _, _], _ => rfl⟩, g__law_sparse T, F.kp⟩
  refine F.ok sc_sparse (fun vs H Q E h => ?_) (fun cdv A outer s H vs Q E hr h => ?_)
  · obtain ⟨h, ca, c, z, k, m, rfl, _⟩ := h
    rfl
  · obtain ⟨h, ca, c, z, k, m, rfl, hh, hc2, hc7, hz, hz1, hz2, hm, hk, q⟩ := h
    have nd := sc_sparse.nd
    have hu := hu_of hr
    have hs : sizeLine = 16777216 := sizeLine_eq
    have hr1 : Room 1 _ := hr.mono (by decide)
    refine ⟨_, PSs.nox (pss_cons (ps_set (i := 5) nd rfl (Or.inl rfl) pe_dnewK)
      (pss_cons (ps_for PassesOwn.never rfl (pi_range1 (by rfl) (f_range T) (pa_cons (pc (ok_pick T) hr1 (pa_cons (pv 0) (pa_cons (pe_op op_add (pv 3) pe_int) pa_nil))) pa_nil)) (pg_name (i := 6) nd rfl (Or.inl rfl))
        (pss_cons (ps_set (i := 7) nd rfl (Or.inl rfl) (pc (ok_wrd T) hr (pa_cons (pv 0) (pa_cons (pv 2) (pa_cons (pv 4) pa_nil)))))
        (pss_one (ps_dput hu (pv 5) (pv 7) (pe_op op_add pe_int (pc (ok_pick T) hr1 (pa_cons (pv 0) (pa_cons (pe_op op_sub (pv 1) pe_int) pa_nil)))) rfl))))
      (pss_one (ps_ret (pv 5))))), ?_⟩
    refine fun F0 hF => ?_
    obtain ⟨nhF, ncF⟩ := hh.fresh hF
    refine ⟨_, rfl, _, rfl, _, _, rfl, rfl, h, ca, (k : Int) + 1, rfl, by omega, by omega, hh.same (same_upd hF), fun r1 H1 hr0 hr2 hh1 k1 => ?_⟩
    refine ⟨r1, rfl, by omega, by omega, ?_⟩
    refine for_it walk_range (fun i σ H' => (∃ v v7, σ = [some (.ref h), some (.int c), some (.str z), some (.int k), some (.int m), some (.ref F0), v, v7]) ∧ (∃ l, H' F0 = some (.dK (kv l)) ∧ VT c m i l) ∧ TapeAt ca H' h ∧ But h H H')
      ⟨⟨none, none, rfl⟩, ⟨[], k1 _ _ upd_same nhF, vt_nil c m⟩, hh1, fun b o e n => k1 b o (same_upd hF b o e) n⟩ (fun _ _ _ _ _ => trivial) ?_ ?_
    · rintro i x σ H2 H3 hi ⟨⟨v, v7, rfl⟩, ⟨l, p1, p2⟩, p3, p4⟩ ⟨rfl, rfl⟩
      refine ⟨_, rfl, _, rfl, _, rfl, h, ca, z, m, rfl, p3, hz, hz1, hz2, hm, fun H4 x5 hh4 k4 hx5 hl5 => ?_⟩
      refine ⟨_, rfl, _, rfl, _, _, rfl, rfl, h, ca, c - 1, rfl, by omega, by omega, hh4, fun r2 H5 g0 g1 hh5 k5 => ?_⟩
      have e5 : H5 F0 = some (.dK (kv l)) := k5 _ _ (k4 _ _ p1 nhF) nhF
      have hlen := p2.ln
      refine ⟨_, _, rfl, rfl, _, rfl, _, rfl, F0, _, rfl, DPut.k (k := Sum.inr x5) e5 (by rw [kv_len]; omega), ?_⟩
      refine ⟨⟨_, _, rfl⟩, ⟨putT l x5 (1 + r2), ?_, vt_put p2 hx5 hl5 (by omega) (by omega)⟩, hh5.off but_upd nhF.symm ncF.symm, fun b o e n => ?_⟩
      · rw [upd_same, putK_kv]
      · rw [upd_ne (ne_of_none e hF)]
        exact k5 b o (k4 b o (p4 b o e n) n) n
    · rintro σ H' ⟨⟨v, v7, rfl⟩, ⟨l, p1, p2⟩, p3, p4⟩
      refine ⟨_, rfl, ?_⟩
      exact q H' F0 l p3 p4 hF p1 (p2.mono (Nat.le_refl _) (by omega))
def spCk : Sp := fun vs H Q _ => ∃ h ca : Addr, vs = [.ref h] ∧ TapeAt ca H h ∧ ∀ H' c, TapeAt ca H' h → But h H H' → isCk c → Q (.int c) H'
theorem sc_ck : FnScope ["_law_tape_here"] ["_law_tape_here"] (defScope s__law_clock) := ⟨rfl, rfl, rfl, by decide +kernel, rfl, by decide +kernel, by decide +kernel⟩
theorem ok_ck (T : Top K mg) : Ok P w K mg base 2 "_law_clock" ["_law_tape_here"] spCk := by
  obtain ⟨fd, F⟩ := fn__law_clock T
  refine ⟨⟨fd, ?_, F.bindsN fun _ _ _ _ _ _ us hl => match us, hl with | [_], _ => rfl⟩, g__law_clock T, F.kp⟩
  refine F.ok sc_ck (fun vs H Q E h => ?_) (fun cdv A outer s H vs Q E hr h => ?_)
  · obtain ⟨h, ca, rfl, _⟩ := h
    rfl
  · obtain ⟨h, ca, rfl, hh, q⟩ := h
    refine ⟨_, PSs.nox (pss_one (ps_ret (pe_ix ix_list (pe_lst (pa_cons pe_int (pa_cons pe_int (pa_cons pe_int (pa_cons pe_int (pa_cons pe_int (pa_cons pe_int pa_nil))))))) (pc (ok_pick T) hr (pa_cons (pv 0) (pa_cons pe_int pa_nil))) (fun _ _ => rfl)))), ?_⟩
    refine ⟨by show 6 ≤ sizeLine; rw [sizeLine_eq]; decide, fun L hL => ?_⟩
    obtain ⟨hne, _⟩ := hh.fresh hL
    refine ⟨_, rfl, h, ca, 6, rfl, by decide, by decide, hh.same (same_upd hL), fun r H1 hr0 hr1 h1 k1 => ?_⟩
    obtain ⟨n, rfl⟩ : ∃ n : Nat, r = n := ⟨r.toNat, (Int.toNat_of_nonneg hr0).symm⟩
    have hn : n < 6 := by omega
    have e : ∃ c : Int, isCk c ∧ [V.int 2, V.int 2, V.int 3, V.int 3, V.int 5, V.int 7][n]? = some (V.int c) := by
      have : n = 0 ∨ n = 1 ∨ n = 2 ∨ n = 3 ∨ n = 4 ∨ n = 5 := by omega
      rcases this with rfl | rfl | rfl | rfl | rfl | rfl
      · exact ⟨2, .inl rfl, rfl⟩
      · exact ⟨2, .inl rfl, rfl⟩
      · exact ⟨3, .inr (.inl rfl), rfl⟩
      · exact ⟨3, .inr (.inl rfl), rfl⟩
      · exact ⟨5, .inr (.inr (.inl rfl)), rfl⟩
      · exact ⟨7, .inr (.inr (.inr rfl)), rfl⟩
    obtain ⟨c, hc, ec⟩ := e
    refine ⟨L, _, _, _, rfl, rfl, .inl (.inl (k1 _ _ upd_same hne)), atI_nat ec, ?_⟩
    exact q H1 c h1 (fun b o z n => k1 b o (same_upd hL b o z) n) hc
def spLtr : Sp := fun vs H Q _ => ∃ h ca : Addr, vs = [.ref h] ∧ TapeAt ca H h ∧ ∀ H' z, TapeAt ca H' h → But h H H' → xyz z → 1 ≤ z.length → z.length ≤ 3 → Q (.str z) H'
theorem sc_ltr : FnScope ["_law_tape_here"] ["_law_tape_here"] (defScope s__law_letters) := ⟨rfl, rfl, rfl, by decide +kernel, rfl, by decide +kernel, by decide +kernel⟩
theorem ok_ltr (T : Top K mg) : Ok P w K mg base 2 "_law_letters" ["_law_tape_here"] spLtr := by
  obtain ⟨fd, F⟩ := fn__law_letters T
  refine ⟨⟨fd, ?_, F.bindsN fun _ _ _ _ _ _ us hl => match us, hl with | [_], _ => rfl⟩, g__law_letters T, F.kp⟩
  refine F.ok sc_ltr (fun vs H Q E h => ?_) (fun cdv A outer s H vs Q E hr h => ?_)
  · obtain ⟨h, ca, rfl, _⟩ := h
    rfl
  · obtain ⟨h, ca, rfl, hh, q⟩ := h
    refine ⟨_, PSs.nox (pss_one (ps_ret (pe_ix ix_list (pe_lst (pa_cons pe_str (pa_cons pe_str (pa_cons pe_str (pa_cons pe_str (pa_cons pe_str (pa_cons pe_str (pa_cons pe_str pa_nil)))))))) (pc (ok_pick T) hr (pa_cons (pv 0) (pa_cons pe_int pa_nil))) (fun _ _ => rfl)))), ?_⟩
    refine ⟨by show 7 ≤ sizeLine; rw [sizeLine_eq]; decide, fun L hL => ?_⟩
    obtain ⟨hne, _⟩ := hh.fresh hL
    refine ⟨_, rfl, h, ca, 7, rfl, by decide, by decide, hh.same (same_upd hL), fun r H1 hr0 hr1 h1 k1 => ?_⟩
    obtain ⟨n, rfl⟩ : ∃ n : Nat, r = n := ⟨r.toNat, (Int.toNat_of_nonneg hr0).symm⟩
    have hn : n < 7 := by omega
    have e : ∃ z : Str, xyz z ∧ 1 ≤ z.length ∧ z.length ≤ 3 ∧ [V.str "xy", .str "xy", .str "xy", .str "yx", .str "xyz", .str "x", .str "z"][n]? = some (V.str z) := by
      have : n = 0 ∨ n = 1 ∨ n = 2 ∨ n = 3 ∨ n = 4 ∨ n = 5 ∨ n = 6 := by omega
      rcases this with rfl | rfl | rfl | rfl | rfl | rfl | rfl <;> exact ⟨_, by decide, by decide, by decide, rfl⟩
    obtain ⟨z, hz, hz1, hz3, ez⟩ := e
    refine ⟨L, _, _, _, rfl, rfl, .inl (.inl (k1 _ _ upd_same hne)), atI_nat ez, ?_⟩
    exact q H1 z h1 (fun b o z n => k1 b o (same_upd hL b o z) n) hz hz1 hz3
end
end Fp

set_option Elab.async false
set_option linter.all false
set_option maxRecDepth 100000
set_option maxHeartbeats 4000000
/-! defs that show things with repr: they are called where nothing else is being shown -/
namespace L2
open PySem PySem.Spec PyProof.Rows
abbrev Gd (A : Around) : Prop := A.guards = some []
structure FnG (P : Program) (w : World) (K : PySem.W.Frag) (mg : Str → Option Value) (base : Heap) (k : Nat) (f : Addr) (fd : FuncData) (ps : List Str) (sp : Sp) : Prop where
  len : ∀ vs H Q E, sp vs H Q E → vs.length = ps.length
  run : ∀ (A : Around) (outer : List Env) (s : Shared) (H : Hp) (args : Args) (us : List Value) (vs : List V) (Q : VK) (E : XK), Gd A → Room k A → Env0 P w K mg base A outer s H → BindsTo s fd args (ps.zip us) → Vals vs us → sp vs H Q E → codeAny (model P w) A (.call (.ref f) args) (CR CX0 outer P w H s Q E) s
section
variable {P : Program} {w : World} {K : PySem.W.Frag} {mg : Str → Option Value} {base : Heap}
theorem FnOk.gd {k : Nat} {f : Addr} {fd : FuncData} {ps : List Str} {sp : Sp} (F : FnOk P w K mg base CX0 k f fd ps sp) : FnG P w K mg base k f fd ps sp :=
  ⟨F.len, fun A outer s H args us vs Q E _ => F.run A outer s H args us vs Q E⟩
theorem FunD.okG {x qual : Str} {params : Arguments} {body : List Stmt} {scope : Scope} {dvs : List V} {kws : List (Str × V)} {f : Addr} {fd : FuncData} {N ps : List Str} {k : Nat} {sp : Sp}
    (F : FunD K x qual params body scope dvs kws f fd) (S : FnScope N ps scope) (len : ∀ vs H Q E, sp vs H Q E → vs.length = ps.length)
    (hbody : ∀ (cdv : Value) (A : Around) (outer : List Env) (s : Shared) (H : Hp) (vs : List V) (Q : VK) (E : XK), Gd A → Room k (A.deeper (envOfC qual scope s.heap.objs.size f cdv)) → sp vs H Q E →
      ∃ t, PSs (cxOf CX0 P w K mg base N qual scope f cdv A outer s H E) body t ∧ t { nx := fun _ H' => Q .non H', rt := Q } (start N vs) H) : FnG P w K mg base (k + 1) f fd ps sp := by
  obtain ⟨oc, od, dV, kV, doc, pm, an, cdv, ct, osl, rfl, lk, hcd, _, _⟩ := F.ex
  refine ⟨len, fun A outer s H args us vs Q E hG hr e0 hb r hsp => ?_⟩
  have keep := fun (b : Addr) (o : Obj) (e : base.get? b = some o) => (e0.bs b o e).1
  have inK : K.In s.heap := e0.mod.kin.keeps keep
  have names : ∀ y ∈ ps.zip us, scope.names.lookup y.1 = some .local ∨ (scope.names.lookup y.1 = some .cell ∧ ((cellsFrom (s.heap.objs.size + 1) scope.names []).lookup y.1).isSome = true) := by
    rintro ⟨n, v⟩ hy
    exact (S.par n (List.of_mem_zip hy).1).imp id fun q => ⟨q, PySem.W.cellsFrom_some _ _ _ (.inl q)⟩
  have hlen : us.length = ps.length := r.length.symm.trans (len _ _ _ _ hsp)
  refine codeAny_call_function hr.depth (inK _ _ lk) rfl S.co S.gen rfl (PySem.W.codeRec_of inK hcd) (hb _ _ _ _ ?_)
  refine wpAny_newFunctionEnv_cells S.kind names fun env he s1 x => ?_
  subst he
  obtain ⟨t, ht, hq⟩ := hbody cdv A outer s H vs Q E hG (hr.deeper _) hsp
  have I : Inv (cxOf CX0 P w K mg base N qual scope f cdv A outer s H E) [] (start N vs) H s1 := inv_start S hr.hd e0 (len _ _ _ _ hsp) r x
  have out : ∀ {σ' : St} {H' : Hp} {v : V} {u : Value} {s' : Shared}, Inv (cxOf CX0 P w K mg base N qual scope f cdv A outer s H E) [] σ' H' s' → RelV v u → Q v H' → CE outer P w H s Q u s' :=
    fun J rv q => ⟨_, _, J.os, J.bare, J.base, J.hok, rv, q⟩
  refine ⟨(e0.mod.nolimit.keeps keep).keeps x.toInCall.keep, codeAny_func (wpAny_mono (ht.run [] s1 (start N vs) H _ I hq) (fun fl s' hs => ?_) fun e s' hs => hs)⟩
  match fl, hs with
  | .ret u, ⟨v, σ', H', J, rv, q⟩ => exact out J rv q
  | .next, ⟨σ', H', J, q⟩ => exact out (v := V.non) (u := Value.none) J rfl q
  | .brk, ⟨_, _, _, q⟩ => exact q.elim
  | .cont, ⟨_, _, _, q⟩ => exact q.elim
end
section
variable {X : Cx} {x : Str} {f : Addr} {fd : FuncData} {ps : List Str} {sp : Sp} {k : Nat} {p pos : Pos} {e : Expr} {es : List Expr} {t : TA}
theorem pe_callG (F : FnG X.prog X.w X.K X.mg X.base k f fd ps sp) (hG : Gd X.A) (hr : Room k X.A) (hg : Gl X x) (hm : X.mg x = some (.ref f)) (hk : PySem.W.keepIn X.K (.ref f) = true) (hb : Binds X.K fd ps [])
    (ha : PA X (e :: es) t) (hdb : (x == ("__debug__" : Str)) = false := by decide) (he : starEach (e :: es) X.env = (false, eval e X.env) :: starEach es X.env := by rfl) (hpl : (backTo pos (starEach es X.env)).any (·.1) = false := by rfl) :
    PE X (.Call (.Name x p) (e :: es) [] pos) (tCall sp [] E0 t) := by
  refine ⟨fun pins s σ H Q I h => wpAny_Call_Name_kw (ld_glob I hg hm ?_ hdb)⟩
  refine PySem.W.callWith_K (h₀ := X.base) I.ok.mod.kin hk (thn (ha.run pos pins s σ H _ I h) fun us s1 ⟨vs, H1, I1, r, q⟩ => ⟨I1.kIn, ?_⟩) he hpl
  have q' : sp vs H1 Q E0 := by
    have q0 : sp (vs ++ []) H1 Q E0 := q
    rw [List.append_nil] at q0
    exact q0
  have hl : (us ++ []).length = ps.length := by
    rw [List.append_nil, ← r.length]
    exact F.len _ _ _ _ q'
  have bb := hb s1 us I1.kIn hl
  rw [List.append_nil] at bb
  refine wpAny_call (codeAny_mono (F.run X.A X.stack s1 H1 ⟨us, []⟩ us vs Q E0 hG hr I1.env0 bb r q') fun r s' hq => ?_)
  match r, hq with
  | .error e, hq => exact pass0 pins σ H1 s1 e s' I1 hq
  | .ok (.ret u), hq => exact I1.after hq
  | .ok .next, hq => exact hq.elim
  | .ok .brk, hq => exact hq.elim
  | .ok .cont, hq => exact hq.elim
/-- what repr tells of None and of a tuple of ints -/
def shownT : Option (List Int) → Str
  | none => "None"
  | some ns => (PyData.tuple (ns.map PyData.int)).shown
def rRepr (K : PySem.W.Frag) : List V → Hp → VK → Prop := fun xs H Q => ∃ (x : V) (r : Option (List Int)), xs = [x] ∧ (match r with
  | none => x = .non
  | some ns => ∃ t, x = .ref t ∧ SqT K H t (ns.map V.int)) ∧ (∀ ns, r = some ns → (PyData.tuple (ns.map PyData.int)).showable = true ∧ (shownT (some ns)).length ≤ sizeLine) ∧ Q (.str (shownT r)) H
theorem dp_ints {K : PySem.W.Frag} {H : Hp} : ∀ ns : List Int, DpAll K H (ns.map V.int) (ns.map PyData.int)
  | [] => .nil
  | n :: ns => .cons (.int n) (dp_ints ns)
theorem no_dict : ∀ ns : List Int, (PyData.tuple (ns.map PyData.int)).hasDict = false
  | [] => rfl
  | n :: ns => by
    have h := no_dict ns
    show (PyData.hasDict (.int n) || PyData.hasDictAll (ns.map PyData.int)) = false
    rw [show PyData.hasDictAll (ns.map PyData.int) = false from h]
    rfl
theorem depth_ints : ∀ ns : List Int, PyData.depthAll (ns.map PyData.int) ≤ 1
  | [] => Nat.zero_le _
  | n :: ns => by
    have h := depth_ints ns
    show max (PyData.depth (.int n)) (PyData.depthAll (ns.map PyData.int)) ≤ 1
    have : PyData.depth (.int n) ≤ 1 := by first | exact Nat.zero_le _ | exact Nat.le_refl _
    omega
theorem cr_repr (hG : Gd X.A) (hu : X.A.units + 64 < cLine) : CallR X (.builtin "repr") (rRepr X.K) := by
  intro pins s σ H xs us Q I r h
  obtain ⟨x, r0, rfl, hx, hz, q⟩ := h
  obtain ⟨u, rfl, ru⟩ := r.one
  cases r0 with
  | none =>
    have hx' : x = .non := hx
    subst hx'
    cases ru
    exact PySem.P.repr_of_none ⟨.str _, H, I.tok _, ⟨_, rfl⟩, q⟩
  | some ns =>
    obtain ⟨t, rfl, ht⟩ := hx
    cases ru
    obtain ⟨z1, z2⟩ := hz ns rfl
    obtain ⟨as, rd⟩ := Dp.reads I (.tuple (ns.map PyData.int)) (.ref t) (.ref t) (.tup ht (dp_ints ns)) rfl
    refine PySem.repr_of_reads' rd z1 (fun z => by rw [no_dict] at z; cases z) hG ?_ (fun _ _ e => e) (fun h' u tk k => ⟨.str _, H, I.kept (t' := tk) k, ⟨u, rfl⟩, q⟩) z2
    have := depth_ints ns
    show X.A.units + (PyData.depthAll (ns.map PyData.int) + 1 + 1) < cLine
    omega
end
end L2

set_option Elab.async false
set_option linter.all false
set_option maxRecDepth 100000
set_option maxHeartbeats 2000000
/-! key=lambda _law_word_here: (-len(_law_word_here), _law_word_here), called -/
namespace Fp
open PySem PySem.W PySem.Spec PyProof.Rows
def lmA (p : Pos) : Arguments := { posonlyargs := [], args := [{ arg := "_law_word_here", annotation := none, pos := p }], vararg := none, kwonlyargs := [], kw_defaults := [], kwarg := none, defaults := [] }
def lmB (p1 p2 p3 p4 p5 p6 : Pos) : Expr := .Tuple [.UnaryOp .USub (.Call (.Name "len" p1) [.Name "_law_word_here" p2] [] p3) p4, .Name "_law_word_here" p5] 0 p6
def lmS : Scope := { kind := .function, names := [(PySem.Str.ofString "_law_word_here", .local), (PySem.Str.ofString "len", .globalImplicit)], isGenerator := false, isCoroutine := false }
theorem ldL {M : Model} {s : Shared} {env : Env} {m : Str → Option Value} {pos : Pos} {v : Value} {Q : Value → Shared → Prop} {A : Around} {E : Value → Shared → Prop} (hk : env.scope.kind = .function) (hl : env.kindOf "_law_word_here" = some .local) (hn : s.heap.Ns env.locals m) (hv : m "_law_word_here" = some v) (h : Q v s) :
    wpAny M A (eval (.Name "_law_word_here" pos) env) Q E s := wpAny_Name (wpAny_loadName_local hk hl hn hv h) (by decide)
section
variable {prog : Program} {w : World} {A : Around} {E : Value → Shared → Prop} {s : Shared} {K : Frag} {mg : Str → Option Value} {base : Heap} {f c' : Addr} {qual : Str} {pm ctv : Value} {p0 p1 p2 p3 p4 p5 p6 : Pos}
theorem lam_rank (hf : s.heap.get? f = some (kla_obj "<lambda>" qual (lmA p0) (lmB p1 p2 p3 p4 p5 p6) lmS [] pm c' ctv)) (hc : s.heap.CodeRec (.ref c') qual) (Mo : L2.Mod K mg base) (kb : ∀ b o, base.get? b = some o → s.heap.get? b = some o) (hlen : mg "len" = none) (hroom : A.depth + 1 < recursionLimit)
    {w0 : Str} {t : Tok} (hw : w0.length ≤ sizeLine) : wpAny (model prog w) A (call (.ref f) [.str w0 t]) (KeyPure (rk w0) s) E s := by
  obtain ⟨mb, b1, b2⟩ := Mo.blt
  refine wpAny_call (kla_callFunE (by omega) hf rfl rfl rfl rfl hc ?_)
  refine wpAny_of_eq (show bindArgs _ _ = pure [(PySem.Str.ofString "_law_word_here", Value.str w0 t)] by first | rfl | with_unfolding_all rfl) ?_
  refine wpAny_newFunctionEnv (fun x hx => ?_) (fun x hx => ?_) (fun h' hn sb => ?_)
  · rcases List.mem_cons.mp hx with rfl | hx
    · decide
    · rcases List.mem_cons.mp hx with rfl | hx
      · decide
      · cases hx
  · obtain rfl := List.mem_singleton.mp hx
    first | rfl | decide
  have k : ∀ b o, s.heap.get? b = some o → h'.get? b = some o := fun b o e => (sb.2 b (Nat.ne_of_lt (Heap.lt_size e))).trans (Heap.get?_push_of_some _ e)
  refine ⟨Mo.nolimit.keeps fun b o e => k b o (kb b o e), kla_codeExpr ?_⟩
  have hn' : h'.Ns s.heap.objs.size fun x => List.lookup x [(PySem.Str.ofString "_law_word_here", Value.str w0 t)] := hn
  show wpAny _ _ (eval (lmB p1 p2 p3 p4 p5 p6) _) _ _ _
  unfold lmB
  refine wpAny_Tuple_spliced ?_
  show wpAny _ _ (spliced ((false, eval _ _) :: backTo p6 (starEach [_] _))) _ _ _
  refine Calls.spliced_cons (wpAny_UnaryOp ?_)
  refine wpAny_Call_Name_kw (Calls.Name_function_global rfl rfl (Calls.loadGlobal_builtin (Mo.glob.keeps fun b o e => k b o (kb b o e)) hlen (b1.keeps fun b o e => k b o (kb b o e)) ((b2 "len" (by decide)).trans boot_len) ?_) (by decide))
  have hs : sizeLine = 16777216 := sizeLine_eq
  have hl63 := L2.line63
  have hv : List.lookup (PySem.Str.ofString "_law_word_here") [(PySem.Str.ofString "_law_word_here", Value.str w0 t)] = some (Value.str w0 t) := by
    rw [List.lookup_cons_self]
  refine callWith_builtin1 (spliced_more (ldL (m := fun x => List.lookup x [(PySem.Str.ofString "_law_word_here", Value.str w0 t)]) (v := .str w0 t) rfl rfl hn' hv (spliced_none ?_))) rfl rfl
  refine len_str (by omega) (neg_int ?_)
  show wpAny _ _ (spliced ((false, eval _ _) :: backTo p6 (starEach [] _))) _ _ _
  refine Calls.spliced_cons (ldL (m := fun x => List.lookup x [(PySem.Str.ofString "_law_word_here", Value.str w0 t)]) (v := .str w0 t) rfl rfl hn' hv (Calls.spliced_nil ?_))
  refine ⟨by show 2 ≤ sizeLine; rw [sizeLine_eq]; decide, ?_⟩
  refine ⟨_, _, rfl, fun b o e => Heap.get?_push_of_some _ (k b o e), ?_⟩
  exact Reads.tuple (Heap.get?_push_size _ rfl) rfl rfl (by
    first
    | exact ReadsAll.cons (Reads.int _ _) (ReadsAll.cons (Reads.str _ _) ReadsAll.nil)
    | (have := ReadsAll.cons (h := Heap.push h' _) (Reads.int (-(w0.length : Int)) _) (ReadsAll.cons (Reads.str w0 t) ReadsAll.nil); simpa using this))
end
end Fp

set_option Elab.async false
set_option linter.all false
set_option maxRecDepth 100000
set_option maxHeartbeats 2000000
/-! sorted(xs, key=lambda _law_word_here: (-len(_law_word_here), _law_word_here)) -/
namespace L2
open PySem PySem.Spec PyProof.Rows
def tSortLam (K : PySem.W.Frag) (T : List (Addr × Str)) (t : TA) : TE := fun σ H Q => t σ H fun vs H1 => LamX.Tabs T H1 ∧ ∃ (a : Addr) (ws : List Str), vs = [.ref a] ∧ H1 a = some (.lst (ws.map V.str)) ∧ (∀ w ∈ ws, w.length ≤ sizeLine) ∧
  ∀ H2 p, LamX.ExtN H1 H2 → LamX.Tabs T H2 → H2 p = none → Q (.ref p) (upd H2 p (.lst ((ws.mergeSort Fp.leR).map V.str)))
theorem ext_ok {P : Program} {w : World} {H : Hp} {h : Heap} {a : Addr} {f : Heap → Prop} (x : ObjOk P w H h a (.ext f)) : f h := by
  unfold ObjOk at x
  exact x.1
theorem pe_sortLam {X : Cx} {T : List (Addr × Str)} {c P : Addr} {e : Expr} {t : TA} {p pos lpos kpos p0 p1 p2 p3 p4 p5 p6 : Pos} (hcalm : X.calm = true) (hg : Gl X "sorted") (hm : X.mg "sorted" = none) (hlen : X.mg "len" = none) (hr : Room 1 X.A) (ha : PA X [e] t)
    (TB : LamX.TabB X.base X.mg c P) (hcode : X.env.code = .ref c) (hT : (P, X.env.qual ++ Str.ofString "<lambda>") ∈ T) (hu : ∀ q ∈ T, q.1 = P → q.2 = X.env.qual ++ Str.ofString "<lambda>")
    (he : backTo pos (starEach [e] X.env) = (false, eval e X.env) :: backTo pos (starEach [] X.env) := by rfl) (hpl : ((backTo pos (starEach [e] X.env)).any fun x => x.1) = false := by rfl) (hall : ((backToKw pos (keywordEach [⟨some "key", .Lambda (Fp.lmA p0) (Fp.lmB p1 p2 p3 p4 p5 p6) Fp.lmS lpos, kpos⟩] X.env)).all fun x => x.1.isSome) = true := by rfl) (hnone : ((backToKw pos (keywordEach [⟨some "key", .Lambda (Fp.lmA p0) (Fp.lmB p1 p2 p3 p4 p5 p6) Fp.lmS lpos, kpos⟩] X.env)).any fun x => x.1.isNone) = false := by rfl) (hks : List.filterMap (fun x => x.1) (backToKw pos (keywordEach [⟨some "key", .Lambda (Fp.lmA p0) (Fp.lmB p1 p2 p3 p4 p5 p6) Fp.lmS lpos, kpos⟩] X.env)) = [Str.ofString "key"] := by rfl) :
    PE X (.Call (.Name "sorted" p) [e] [⟨some "key", .Lambda (Fp.lmA p0) (Fp.lmB p1 p2 p3 p4 p5 p6) Fp.lmS lpos, kpos⟩] pos) (tSortLam X.K T t) := by
  refine ⟨fun pins s σ H Q I h => ?_⟩
  refine wpAny_Call_Name_kw (ld_blt I hg hm (show bootBuiltins "sorted" = some (.builtin "sorted") by decide +kernel) (callWith_kw (thn (ha.run pos pins s σ H _ I h) fun us s1 ⟨vs, H1, I1, r1, q1⟩ => ?_) he hpl hall hnone) (by decide) (by decide))
  obtain ⟨hTabs, a, ws, rfl, hS, hwl, q⟩ := q1
  obtain rfl := Vals.ref1 r1
  refine wpAny_evalAll_cons (wpAny_bind ?_)
  refine LamX.lam_make2 I1 TB hcode hT hu hTabs rfl (fun y hy e => ?_) fun f c' pm ctv H2 s2 I2 hext htabs hf hfn hfr hco => ?_
  · rcases List.mem_cons.mp hy with rfl | hy
    · cases e
    · rcases List.mem_cons.mp hy with rfl | hy
      · cases e
      · cases hy
  refine wpAny_bind (wpAny_standAt (wpAny_pure ?_))
  refine wpAny_pure ?_
  have hS2 : SqL X.K H2 a (ws.map V.str) := SqL.of (hext _ _ hS (by intro ps e; cases e))
  obtain ⟨its, rv, hl, hz⟩ := I2.list hS2
  rw [hks]
  have hE : PySem.W.EachIs (fun v w => ∃ t, v = Value.str w t) its ws := by
    have hv := rv
    clear hl hz q hS hS2
    have hl' : its.length = ws.length := by rw [← rv.length, List.length_map]
    refine Fp.strs_each hl' fun j v e => ?_
    have hj : j < ws.length := by rw [← hl']; exact (List.getElem?_eq_some_iff.mp e).1
    have ew : ws[j]? = some ws[j] := List.getElem?_eq_getElem hj
    obtain ⟨u, hu', r⟩ := Vals.get rv (i := j) (x := .str ws[j]) (by rw [List.getElem?_map, ew]; rfl)
    rw [e] at hu'
    obtain ⟨t, rfl⟩ := r
    exact ⟨ws[j], t, ew, Option.some.inj hu'⟩
  have hz2 : ws.length ≤ sizeLine := by rw [List.length_map] at hz; exact hz
  have hun := hr.un
  refine PySem.W.sorted_key_data (b := false) Fp.rk hl.isList hE (Fp.rk_all ws) (Fp.rk_sortable ws) hz2 (fun w0 hw0 => ?_) (PyProof.Rows.ksk_s1 _ _) (fun x => PyProof.Rows.ksk_l1 _ _) (fun x => ksk_t1 _ _) (fun v w0 hR hw0 h tk kp => ?_) fun out n h' tk kp hnew hD hlen ho => ?_
  · have := Fp.rk_depth w0
    omega
  · obtain ⟨t, rfl⟩ := hR
    obtain ⟨oc, cvs, ct, hc1, hc2, hc3⟩ : ∃ oc vs t, s2.heap.get? c' = some oc ∧ oc.data = Data.fields vs ∧ vs[1]? = some (Value.str (X.env.qual ++ Str.ofString "<lambda>") t) := ext_ok (I2.hok _ _ hco)
    refine Fp.lam_rank (s := { heap := h, gens := s2.gens, drawn := s2.drawn, toks := tk, os := s2.os }) (qual := X.env.qual ++ Str.ofString "<lambda>") (kp _ _ hf) ⟨c', oc, cvs, ct, rfl, kp _ _ hc1, hc2, hc3⟩ I2.ok.mod (fun b o e => kp _ _ (I2.bk b o e)) hlen ?_ (hwl w0 hw0)
    have := hr.dp
    show X.A.depth + 1 < _
    omega
  · have hlen2 : ((ws.mergeSort Fp.leR).map V.str).length ≤ sizeLine := by
      rw [List.length_map, List.length_mergeSort]
      exact hz2
    exact ⟨.ref _, upd H2 (s2.heap.objs.size + 1) (.lst ((ws.mergeSort Fp.leR).map V.str)), I2.laid (t' := tk) (fun b o e => kp b o e) (Nat.le_succ _) ⟨hlen2, out, n, Fp.vals_strs ho, hD⟩, rfl, q _ _ hext htabs (I2.hok.fresh (Nat.le_succ _))⟩
end L2

set_option Elab.async false
set_option linter.all false
set_option maxRecDepth 100000
set_option maxHeartbeats 4000000
/-! defs with a lambda: the code object's address is handed to the body; and such that show with repr -/
namespace L2
open PySem PySem.Spec PyProof.Rows
theorem FunD.okC {P : Program} {w : World} {K : PySem.W.Frag} {mg : Str → Option Value} {base : Heap} {x qual : Str} {params : Arguments} {body : List Stmt} {scope : Scope} {dvs : List V} {kws : List (Str × V)} {fd : FuncData} {q : He.Defn}
    {CX : CXT} {N ps : List Str} {k : Nat} {sp : Sp} (F : FunD K x qual params body scope dvs kws (He.fAd K q) fd) (S : FnScope N ps scope) (len : ∀ vs H Q E, sp vs H Q E → vs.length = ps.length)
    (hbody : ∀ (A : Around) (outer : List Env) (s : Shared) (H : Hp) (vs : List V) (Q : VK) (E : XK), Room k (A.deeper (envOfC qual scope s.heap.objs.size (He.fAd K q) (.ref (He.cT K q).1))) → sp vs H Q E →
      ∃ t, PSs (cxOf CX P w K mg base N qual scope (He.fAd K q) (.ref (He.cT K q).1) A outer s H E) body t ∧ t { nx := fun _ H' => Q .non H', rt := Q } (start N vs) H) : FnOk P w K mg base CX (k + 1) (He.fAd K q) fd ps sp := by
  obtain ⟨oc, od, dV, kV, doc, pm, an, cdv, ct, osl, rfl, lk, hcd, _, _⟩ := F.ex
  obtain ⟨c, rfl⟩ := He.codeIn_ref hcd
  have e : (He.cT K q).1 = c := He.codeOf_eq lk rfl
  rw [e] at hbody
  exact fn_of lk hcd S len fun A outer s H vs Q E hr hsp => hbody A outer s H vs Q E hr hsp
section
variable {P : Program} {w : World} {K : PySem.W.Frag} {mg : Str → Option Value} {base : Heap}
theorem FunD.okCG {x qual : Str} {params : Arguments} {body : List Stmt} {scope : Scope} {dvs : List V} {kws : List (Str × V)} {fd : FuncData} {q : He.Defn} {N ps : List Str} {k : Nat} {sp : Sp}
    (F : FunD K x qual params body scope dvs kws (He.fAd K q) fd) (S : FnScope N ps scope) (len : ∀ vs H Q E, sp vs H Q E → vs.length = ps.length)
    (hbody : ∀ (A : Around) (outer : List Env) (s : Shared) (H : Hp) (vs : List V) (Q : VK) (E : XK), Gd A → Room k (A.deeper (envOfC qual scope s.heap.objs.size (He.fAd K q) (.ref (He.cT K q).1))) → sp vs H Q E →
      ∃ t, PSs (cxOf CX0 P w K mg base N qual scope (He.fAd K q) (.ref (He.cT K q).1) A outer s H E) body t ∧ t { nx := fun _ H' => Q .non H', rt := Q } (start N vs) H) : FnG P w K mg base (k + 1) (He.fAd K q) fd ps sp := by
  obtain ⟨oc, od, dV, kV, doc, pm, an, cdv, ct, osl, rfl, lk, hcd, _, _⟩ := F.ex
  obtain ⟨c, rfl⟩ := He.codeIn_ref hcd
  have ec : (He.cT K q).1 = c := He.codeOf_eq lk rfl
  subst ec
  refine ⟨len, fun A outer s H args us vs Q E hG hr e0 hb r hsp => ?_⟩
  have keep := fun (b : Addr) (o : Obj) (e : base.get? b = some o) => (e0.bs b o e).1
  have inK : K.In s.heap := e0.mod.kin.keeps keep
  have names : ∀ y ∈ ps.zip us, scope.names.lookup y.1 = some .local ∨ (scope.names.lookup y.1 = some .cell ∧ ((cellsFrom (s.heap.objs.size + 1) scope.names []).lookup y.1).isSome = true) := by
    rintro ⟨n, v⟩ hy
    exact (S.par n (List.of_mem_zip hy).1).imp id fun q => ⟨q, PySem.W.cellsFrom_some _ _ _ (.inl q)⟩
  have hlen : us.length = ps.length := r.length.symm.trans (len _ _ _ _ hsp)
  refine codeAny_call_function hr.depth (inK _ _ lk) rfl S.co S.gen rfl (PySem.W.codeRec_of inK hcd) (hb _ _ _ _ ?_)
  refine wpAny_newFunctionEnv_cells S.kind names fun env he s1 x => ?_
  subst he
  obtain ⟨t, ht, hq⟩ := hbody A outer s H vs Q E hG (hr.deeper _) hsp
  have I : Inv (cxOf CX0 P w K mg base N qual scope (He.fAd K q) (.ref (He.cT K q).1) A outer s H E) [] (start N vs) H s1 := inv_start S hr.hd e0 (len _ _ _ _ hsp) r x
  have out : ∀ {σ' : St} {H' : Hp} {v : V} {u : Value} {s' : Shared}, Inv (cxOf CX0 P w K mg base N qual scope (He.fAd K q) (.ref (He.cT K q).1) A outer s H E) [] σ' H' s' → RelV v u → Q v H' → CE outer P w H s Q u s' :=
    fun J rv q => ⟨_, _, J.os, J.bare, J.base, J.hok, rv, q⟩
  refine ⟨(e0.mod.nolimit.keeps keep).keeps x.toInCall.keep, codeAny_func (wpAny_mono (ht.run [] s1 (start N vs) H _ I hq) (fun fl s' hs => ?_) fun e s' hs => hs)⟩
  match fl, hs with
  | .ret u, ⟨v, σ', H', J, rv, q⟩ => exact out J rv q
  | .next, ⟨σ', H', J, q⟩ => exact out (v := V.non) (u := Value.none) J rfl q
  | .brk, ⟨_, _, _, q⟩ => exact q.elim
  | .cont, ⟨_, _, _, q⟩ => exact q.elim
end
end L2

set_option Elab.async false
set_option linter.all false
set_option maxRecDepth 100000
set_option maxHeartbeats 4000000
/-! repr of what reads as data; of a tuple of pairs (text, int) -/
namespace L2
open PySem PySem.Spec PyProof.Rows Fp
section
variable {X : Cx}
def rReprD (K : PySem.W.Frag) : List V → Hp → VK → Prop := fun xs H Q => ∃ (a : Addr) (d : PyData), xs = [.ref a] ∧ Dp K H (.ref a) d ∧ d.showable = true ∧ d.hasDict = false ∧ d.depth ≤ 8 ∧ d.shown.length ≤ sizeLine ∧ Q (.str d.shown) H
theorem cr_reprD (hG : Gd X.A) (hu : X.A.units + 64 < cLine) : CallR X (.builtin "repr") (rReprD X.K) := by
  intro pins s σ H xs us Q I r h
  obtain ⟨a, d, rfl, hd, z1, hno, hdp, z2, q⟩ := h
  obtain ⟨u, rfl, ru⟩ := r.one
  cases ru
  obtain ⟨as, rd⟩ := Dp.reads I d (.ref a) (.ref a) hd rfl
  refine PySem.repr_of_reads' rd z1 (fun z => by rw [hno] at z; cases z) hG ?_ (fun _ _ e => e) (fun h' u tk k => ⟨.str _, H, I.kept (t' := tk) k, ⟨u, rfl⟩, q⟩) z2
  omega
end
/-- a table's pairs as data -/
def prD (l : Tb) : PyData := .tuple (l.map fun p => .tuple [.str p.1, .int p.2])
theorem dpAll_pairs {K : PySem.W.Frag} {H : Hp} : ∀ {ps : List Addr} {l : Tb}, Paired (fun p (q : Str × Int) => H p = some (.tup [.str q.1, .int q.2])) ps l → DpAll K H (ps.map V.ref) (l.map fun p => .tuple [.str p.1, .int p.2])
  | [], [], _ => .nil
  | p :: ps, q :: l, .cons h1 h2 => .cons (.tup (SqT.of h1) (.cons (.str _) (.cons (.int _) .nil))) (dpAll_pairs h2)
theorem prD_dict (l : Tb) : (prD l).hasDict = false := by
  show PyData.hasDictAll (l.map fun p => .tuple [.str p.1, .int p.2]) = false
  induction l with
  | nil => rfl
  | cons p l ih =>
    show (PyData.hasDict (.tuple [.str p.1, .int p.2]) || PyData.hasDictAll (l.map fun p => .tuple [.str p.1, .int p.2])) = false
    rw [ih]
    rfl
theorem prD_depth (l : Tb) : (prD l).depth ≤ 2 := by
  show PyData.depthAll (l.map fun p => .tuple [.str p.1, .int p.2]) + 1 ≤ 2
  have : PyData.depthAll (l.map fun p => .tuple [.str p.1, .int p.2]) ≤ 1 := by
    induction l with
    | nil => exact Nat.zero_le _
    | cons p l ih =>
      show max (PyData.depth (.tuple [.str p.1, .int p.2])) (PyData.depthAll (l.map fun p => .tuple [.str p.1, .int p.2])) ≤ 1
      exact Nat.max_le.mpr ⟨Nat.le_refl _, ih⟩
  omega
theorem prD_show {l : Tb} (h : ∀ p ∈ l, 0 ≤ p.2 ∧ p.2 < 1000) : (prD l).showable = true := by
  show PyData.showableAll (l.map fun p => .tuple [.str p.1, .int p.2]) = true
  induction l with
  | nil => rfl
  | cons p l ih =>
    have hp := h p List.mem_cons_self
    have h1 : p.2.natAbs.log2 ≤ p.2.natAbs := Nat.log2_le_self _
    show ((true && (decide (p.2.natAbs.log2 < 1920) && true)) && PyData.showableAll (l.map fun p => .tuple [.str p.1, .int p.2])) = true
    rw [ih fun q hq => h q (List.mem_cons_of_mem _ hq), decide_eq_true (by omega)]
    rfl
theorem prD_len {l : Tb} {m : Nat} (h : ∀ p ∈ l, 0 ≤ p.2 ∧ p.2 < 1000) (hw : ∀ p ∈ l, p.1.length ≤ m ∧ ∀ c ∈ p.1.cps.toList, c < 256) (hk : l.length * (m + 20) ≤ 1000000) : (prD l).shown.length ≤ sizeLine := by
  refine PyData.shown_fits (B := 13) (by decide) (by decide) ?_ ?_
  · show PyData.leavesShortAll 13 (l.map fun p => .tuple [.str p.1, .int p.2]) = true
    clear hk
    induction l with
    | nil => rfl
    | cons p l ih =>
      have hp := h p List.mem_cons_self
      have hq := (hw p List.mem_cons_self).2
      show ((p.1.cps.toList.all (fun c => decide (c < 16 ^ 8)) && (decide ((PyData.shown (.int p.2)).length ≤ 13) && true)) && PyData.leavesShortAll 13 (l.map fun p => .tuple [.str p.1, .int p.2])) = true
      rw [ih (fun q hq => h q (List.mem_cons_of_mem _ hq)) (fun q hq => hw q (List.mem_cons_of_mem _ hq)), decide_eq_true (PyData.shown_int_le (i := p.2) (by omega)), List.all_eq_true.mpr (fun c hc => decide_eq_true (Nat.lt_of_lt_of_le (hq c hc) (by decide)))]
      rfl
  · have key : PyData.weightAll (l.map fun p => .tuple [.str p.1, .int p.2]) ≤ l.length * (m + 20) := by
      clear hk
      induction l with
      | nil => exact Nat.zero_le _
      | cons p l ih =>
        have hp := h p List.mem_cons_self
        have hq := (hw p List.mem_cons_self).1
        have h0 := ih (fun q hq => h q (List.mem_cons_of_mem _ hq)) (fun q hq => hw q (List.mem_cons_of_mem _ hq))
        have h1 : PyData.weight (.int p.2) ≤ 11 := by
          show (if p.2 == 0 then 0 else p.2.natAbs.log2 + 1) ≤ 11
          split
          · exact Nat.zero_le _
          · have : p.2.natAbs.log2 < 10 := (Nat.log2_lt (by rename_i z; intro z2; exact z (by simp; omega))).mpr (by omega)
            omega
        have h2 : PyData.weight (.str p.1) = p.1.length := rfl
        show (PyData.weight (.str p.1) + 1 + (PyData.weight (.int p.2) + 1 + 0)) + 1 + PyData.weightAll (l.map fun p => .tuple [.str p.1, .int p.2]) ≤ (l.length + 1) * (m + 20)
        rw [Nat.succ_mul]
        omega
    show PyData.weightAll (l.map fun p => .tuple [.str p.1, .int p.2]) ≤ 2 ^ 20
    have : (2 : Nat) ^ 20 = 1048576 := by decide
    omega
end L2

set_option Elab.async false
set_option linter.all false
set_option maxRecDepth 100000
set_option maxHeartbeats 4000000
namespace Fp
open PySem PySem.Spec PyProof.Rows L2
theorem BagAt.ext {K : PySem.W.Frag} {H H' : Hp} {b : Addr} {c : Int} {L : Tb} (h : BagAt K H b c L) (k : LamX.ExtN H H') : BagAt K H' b c L := by
  obtain ⟨dx, t, h1, ps, o, e1, e2, e3⟩ := h
  exact ⟨dx, t, k _ _ h1 (by intro ps z; cases z), ps, o, k _ _ e1 (by intro ps z; cases z), e2, Paired.mapP e3 fun a q z => k _ _ z (by intro ps z; cases z)⟩
theorem WordsAt.ext {H H' : Hp} {t : Addr} {L : Tb} (h : WordsAt H t L) (k : LamX.ExtN H H') : WordsAt H' t L := by
  obtain ⟨ps, o, e1, e2, e3⟩ := h
  exact ⟨ps, o, k _ _ e1 (by intro ps z; cases z), e2, Paired.mapP e3 fun a q z => k _ _ z (by intro ps z; cases z)⟩
theorem TapeAt.ext {ca : Addr} {H H' : Hp} {h : Addr} (x : TapeAt ca H h) (k : LamX.ExtN H H') : TapeAt ca H' h := by
  obtain ⟨cs, a, l, sd, tn, h1, h2, r⟩ := x
  exact ⟨cs, a, l, sd, tn, k _ _ h1 (by intro ps z; cases z), k _ _ h2 (by intro ps z; cases z), r⟩
theorem dp_prs {K : PySem.W.Frag} {H : Hp} {t : Addr} {l : Tb} (h : WordsAt H t l) : Dp K H (.ref t) (prD l) := by
  obtain ⟨ps, o, h1, _, h3⟩ := h
  exact .tup (.inl (.inr ⟨o, h1⟩)) (dpAll_pairs h3)
abbrev dPr : He.Defn := ("_law_pairs", none)
def qLam : Str := (envOfC "_law_pairs" (defScope s__law_pairs) 0 0 .none).qual ++ Str.ofString "<lambda>"
def TT (K : PySem.W.Frag) : List (Addr × Str) := [((He.cT K dPr).2, qLam)]
section
variable {P : Program} {w : World} {K : PySem.W.Frag} {mg : Str → Option Value} {base : Heap}
def spPrs (K : PySem.W.Frag) : Sp := fun vs H Q _ => ∃ (d : Addr) (l : Tb), vs = [.ref d] ∧ LamX.Tabs (TT K) H ∧ H d = some (.dK (kv l)) ∧ Nd l ∧ (∀ p ∈ l, p.1.length ≤ 1000000) ∧ l.length ≤ 1000000 ∧ ∀ H' t, LamX.ExtN H H' → LamX.Tabs (TT K) H' → WordsAt H' t (canon l) → Q (.ref t) H'
abbrev nPrs : List Str := ["_law_sparse_here", "_law_word_here"]
theorem sc_prs : FnScope nPrs ["_law_sparse_here"] (defScope s__law_pairs) := ⟨rfl, rfl, rfl, by decide +kernel, rfl, by decide +kernel, by decide +kernel⟩
theorem ok_prs (T : Top K mg) (TB : LamX.TabB base mg (He.cT K dPr).1 (He.cT K dPr).2) : Ok P w K mg base 2 "_law_pairs" ["_law_sparse_here"] (spPrs K) := by
  obtain ⟨fd, F⟩ := fn__law_pairs T
  refine ⟨⟨fd, ?_, F.bindsN fun _ _ _ _ _ _ us hl => match us, hl with | [_], _ => rfl⟩, g__law_pairs T, F.kp⟩
  refine FunD.okC (q := dPr) F sc_prs (fun vs H Q E h => ?_) (fun A outer s H vs Q E hr h => ?_)
  · obtain ⟨d, l, rfl, _⟩ := h
    rfl
  · obtain ⟨d, l, rfl, tb, hd, hnd, hwl, hll, q⟩ := h
    have nd := sc_prs.nd
    have hu := hu_of hr
    have hs : sizeLine = 16777216 := sizeLine_eq
    refine ⟨_, PSs.nox (pss_one (ps_ret (pe_callTy call_tupleF (by rfl) (f_tuple T) (by decide +kernel) (pa_cons (pe_lc (own := [("_law_word_here", 1)]) (g := gName 1) (tt := tYes) (te := tTup (tCons (tVar 1) (tCons (tDGet (tVar 0) (tVar 1)) tNil))) (by rfl) nd (pi_list (pe_sortLam (T := TT K) (c := (He.cT K dPr).1) (P := (He.cT K dPr).2) (by rfl) (by rfl) (f_sorted T) (f_len T) hr (pa_cons (pe_callTy (call_listD rfl) (by rfl) (f_list T) (by decide +kernel) (pa_cons (pv 0) pa_nil)) pa_nil) TB rfl (List.mem_singleton.mpr rfl) (fun z hz _ => by rw [List.mem_singleton.mp hz]; rfl)))
        (blkOk_by (N := nPrs) (sc := defScope s__law_pairs) (by decide +kernel)) (fun _ _ _ _ _ => pg_name (i := 1) nd rfl (Or.inl rfl)) (fun _ _ _ _ _ => pts_nil) (fun _ _ _ _ _ => by exact pe_tup (pa_cons (pv 1) (pa_cons (pe_dget hu (pv 0) (pv 1) (fun _ _ => rfl)) pa_nil)))) pa_nil)))), ?_⟩
    refine ⟨_, rfl, d, kv l, rfl, .inl hd, fun A0 nA => ?_⟩
    have ek : ((kv l).map fun kv => kV kv.1) = (l.map (·.1)).map V.str := by
      unfold kv
      rw [List.map_map, List.map_map]
      rfl
    rw [ek]
    have sA := same_upd (o := .lst ((l.map (·.1)).map V.str)) nA
    have eA := upd_same (H := H) (a := A0) (o := HO.lst ((l.map (·.1)).map V.str))
    replace tb := tb.ext sA
    have xA : LamX.ExtN H (upd H A0 (.lst ((l.map (·.1)).map V.str))) := LamX.ExtN.of sA
    replace hd := sA _ _ hd
    generalize upd H A0 (.lst ((l.map (·.1)).map V.str)) = H1 at eA tb xA hd ⊢
    refine ⟨tb, A0, l.map (·.1), rfl, eA, fun x hx => ?_, fun H2 S x2 tb2 nS => ?_⟩
    · obtain ⟨p, hp, rfl⟩ := List.mem_map.mp hx
      have := hwl p hp
      omega
    have sS := same_upd (o := .lst (((l.map (·.1)).mergeSort leR).map V.str)) nS
    have eS : (upd H2 S (.lst (((l.map (·.1)).mergeSort leR).map V.str))) S = some (.lst ((ordW l).map V.str)) := upd_same
    have x3 := x2.trans (LamX.ExtN.of sS)
    replace tb2 := tb2.ext sS
    replace hd := x3 _ _ hd (by intro ps z; cases z)
    have xH := xA.trans x3
    generalize upd H2 S (.lst (((l.map (·.1)).mergeSort leR).map V.str)) = H3 at eS tb2 hd xH ⊢
    clear x2 x3 sS xA eA tb
    refine ⟨S, rfl, ⟨_, SqL.of eS⟩, fun D hD => ?_⟩
    have nDS : S ≠ D := ne_of_none eS hD
    refine lc_it (walk_list (xs := (ordW l).map V.str)) (fun i H' => ∃ ps : List Addr, H' D = some (.lst (ps.map V.ref)) ∧ ps.length = i ∧ Paired (fun p (q : Str × Int) => H' p = some (.tup [.str q.1, .int q.2])) ps ((canon l).take i) ∧ Same H3 H' ∧ H' S = some (.lst ((ordW l).map V.str)))
      ⟨[], upd_same, rfl, .nil, same_upd hD, by rw [upd_ne nDS]; exact eS⟩ (fun i H' _ hP => .inl (.inl hP.choose_spec.2.2.2.2)) ?_ ?_
    · rintro i x H4 H5 hi ⟨ps, p1, p2, p3, p4, p5⟩ ⟨rfl, e⟩
      rw [List.length_map, ordW_len] at hi
      rw [List.getElem?_map] at e
      cases ew : (ordW l)[i]? with
      | none => rw [ew] at e; cases e
      | some x0 =>
        rw [ew] at e
        have e2 : V.str x0 = x := Option.some.inj e
        subst e2
        have hx0 : x0 ∈ l.map (·.1) := ordW_mem.mp (List.mem_of_getElem? ew)
        refine ⟨rfl, ?_⟩
        refine ⟨_, rfl, _, rfl, _, rfl, d, .int (num l x0), rfl, .inl ⟨kv l, Sum.inr x0, .inl (p4 _ _ hd), rfl, (valV_yes (has_iff.mpr hx0)).symm⟩, ?_⟩
        refine ⟨by show 2 ≤ sizeLine; omega, fun p hp => ?_⟩
        have npD : D ≠ p := ne_of_none p1 hp
        have npS : S ≠ p := ne_of_none p5 hp
        refine ⟨ps.map V.ref, by rw [upd_ne npD]; exact p1, by rw [List.length_map]; omega, ps ++ [p], ?_, ?_, ?_, ?_, ?_⟩
        · rw [upd_same, List.map_append]
          rfl
        · rw [List.length_append, p2]
          rfl
        · have ec : (canon l).take (i + 1) = (canon l).take i ++ [(x0, num l x0)] := by
            rw [List.take_add_one]
            unfold canon
            rw [List.getElem?_map, ew]
            rfl
          rw [ec]
          refine Paired.snoc (Paired.mapP p3 fun a b z => ?_) ?_
          · rw [upd_ne (ne_of z p1 (by intro y; cases y)), upd_ne (ne_of_none z hp)]
            exact z
          · rw [upd_ne npD.symm]
            exact upd_same
        · intro b o z
          rw [upd_ne (ne_of_none z hD)]
          exact same_upd hp _ _ (p4 _ _ z)
        · rw [upd_ne nDS, upd_ne npS]
          exact p5
    · rintro H4 ⟨ps, p1, p2, p3, p4, p5⟩
      have ecl : (canon l).length = l.length := by
        unfold canon
        rw [List.length_map, ordW_len]
      rw [List.length_map, List.take_of_length_le (by rw [ecl, ordW_len]; exact Nat.le_refl _)] at p3
      refine ⟨D, _, rfl, SqL.of p1, fun t o nt po => ?_⟩
      have st := same_upd (o := .frz o (.tup (ps.map V.ref))) nt
      exact q _ t (xH.trans (LamX.ExtN.of (p4.trans st))) (tb2.ext (p4.trans st)) ⟨ps, o, upd_same, po, Paired.mapP p3 fun a b z => st _ _ z⟩
end
end Fp

set_option Elab.async false
set_option linter.all false
set_option maxRecDepth 100000
set_option maxHeartbeats 4000000
namespace Fp
open PySem PySem.Spec PyProof.Rows L2
section
variable {P : Program} {w : World} {K : PySem.W.Frag} {mg : Str → Option Value} {base : Heap}
theorem xyz_256 {z : Str} (h : xyz z) : ∀ c ∈ z.cps.toList, c < 256 := fun c hc => by
  rcases h c hc with rfl | rfl | rfl <;> decide
theorem prD_vt {c : Int} {m k : Nat} {l : Tb} (hc : c ≤ 1000) (v : VT c m k l) (hk : k * (m + 20) ≤ 1000000) : (prD l).showable = true ∧ (prD l).hasDict = false ∧ (prD l).depth ≤ 8 ∧ (prD l).shown.length ≤ sizeLine := by
  have h1 : ∀ p ∈ l, 0 ≤ p.2 ∧ p.2 < 1000 := fun p hp => by
    have := v.nu p hp
    omega
  exact ⟨prD_show h1, prD_dict l, Nat.le_trans (prD_depth l) (by decide), prD_len h1 (fun p hp => ⟨(v.wd p hp).2, xyz_256 (v.wd p hp).1⟩) (Nat.le_trans (Nat.mul_le_mul_right _ v.ln) hk)⟩
def spIs (K : PySem.W.Frag) : Sp := fun vs H Q _ => ∃ (b d : Addr) (c : Int) (m k : Nat) (l : Tb), vs = [.ref b, .int c, .ref d] ∧ LamX.Tabs (TT K) H ∧ BagAt K H b c (canon l) ∧ H d = some (.dK (kv l)) ∧ c ≤ 1000 ∧ VT c m k l ∧ VT c m k (canon l) ∧ k * (m + 20) ≤ 1000000 ∧ ∀ H', LamX.ExtN H H' → LamX.Tabs (TT K) H' → Q (.bl true) H'
abbrev nIs : List Str := ["_law_told", "_law_clock_here", "_law_sparse_here", "_law_due"]
theorem sc_is : FnScope nIs ["_law_told", "_law_clock_here", "_law_sparse_here"] (defScope s__law_is) := ⟨rfl, rfl, rfl, by decide +kernel, rfl, by decide +kernel, by decide +kernel⟩
theorem ok_is (T : Top K mg) (TB : LamX.TabB base mg (He.cT K dPr).1 (He.cT K dPr).2) : ∃ fd, FnG P w K mg base 3 (He.fAd K ("_law_is", none)) fd ["_law_told", "_law_clock_here", "_law_sparse_here"] (spIs K) ∧ Binds K fd ["_law_told", "_law_clock_here", "_law_sparse_here"] [] ∧ PySem.W.keepIn K (.ref (He.fAd K ("_law_is", none))) = true := by
  obtain ⟨fd, F⟩ := fn__law_is T
  refine ⟨fd, ?_, F.bindsN fun _ _ _ _ _ _ us hl => match us, hl with | [_, _, _], _ => rfl, F.kp⟩
  refine F.okG sc_is (fun vs H Q E h => ?_) (fun cdv A outer s H vs Q E hG hr h => ?_)
  · obtain ⟨b, d, c, m, k, l, rfl, _⟩ := h
    rfl
  · obtain ⟨b, d, c, m, k, l, rfl, tb, hb, hd, hc, v, vc, hk, q⟩ := h
    have nd := sc_is.nd
    have hs : sizeLine = 16777216 := sizeLine_eq
    have hk1 : k * 20 ≤ 1000000 := Nat.le_trans (Nat.mul_le_mul_left k (by omega)) hk
    have hm1 : l ≠ [] → m ≤ 1000000 := fun hl => by
      have : 1 ≤ k := Nat.le_trans (List.length_pos_iff.mpr hl) v.ln
      have : 1 * (m + 20) ≤ k * (m + 20) := Nat.mul_le_mul_right _ this
      omega
    refine ⟨_, PSs.nox (pss_cons (ps_if (PW.pt (pw_or (pt_not (pt_val (pe_callB call_isi (by rfl) (f_isinstance T) (by decide +kernel) (pa_cons (pv 0) (pa_cons (pe_glob (v := .ref (He.ga K "Bag")) rfl (g_Bag T) rfl) pa_nil)))))
        (pw_or (pt_val (pe_callB call_isi (by rfl) (f_isinstance T) (by decide +kernel) (pa_cons (pe_fld (pv 0) rfl) (pa_cons (pe_bltn (v := .ty "bool") (by rfl) (f_bool T) (by decide +kernel) rfl) pa_nil))))
        (pw_or1 (pt_cmpR op_ne (pe_fld (pv 0) rfl) (pv 1) (nomark _)))))) (pss_one (ps_ret pe_bl)) pss_nil)
      (pss_cons (ps_set (i := 3) nd rfl (Or.inl rfl) (pc (ok_prs T TB) hr (pa_cons (pv 2) pa_nil)))
      (pss_one (ps_ret (pe_and (pe_callB call_isi (by rfl) (f_isinstance T) (by decide +kernel) (pa_cons (pe_fld (pv 0) rfl) (pa_cons (pe_bltn (v := .ty "tuple") (by rfl) (f_tuple T) (by decide +kernel) rfl) pa_nil)))
        (pe_and (pe_cmpR (op_eqP hr.units) (pe_fld (pv 0) rfl) (pv 3) (nomark _))
        (pe_one (pe_cmpR op_eq (pe_callB (cr_reprD hG hr.units) (by rfl) (f_repr T) (by decide +kernel) (pa_cons (pe_fld (pv 0) rfl) pa_nil)) (pe_callB (cr_reprD hG hr.units) (by rfl) (f_repr T) (by decide +kernel) (pa_cons (pv 3) pa_nil)) (nomark _))))))))), ?_⟩
    obtain ⟨dx, t, ea, hw⟩ := id hb
    refine ⟨_, rfl, _, _, _, _, true, rfl, .own _, .base (.ins ea (cls_Bag T) (x_class T) (x_get T) (x_takes T) (x_mro T)), x_is T, true, rfl, iteF ?_⟩
    refine ⟨_, rfl, b, _, dx, _, _, rfl, ea, cls_Bag T, na_Bag_clock T, flds_clock _ _, _, _, _, _, false, rfl, .ty "bool", .base (.int _), kit_ty (by decide +kernel), false, rfl, iteF ?_⟩
    refine ⟨_, rfl, b, _, dx, _, _, rfl, ea, cls_Bag T, na_Bag_clock T, flds_clock _ _, _, rfl, rfl, _, rfl, ?_⟩
    rw [decide_eq_true rfl]
    refine iteF ?_
    refine ⟨_, rfl, d, l, rfl, tb, hd, v.nd, fun p hp => Nat.le_trans (v.wd p hp).2 (hm1 fun z => by rw [z] at hp; cases hp), Nat.le_trans v.ln (by omega), fun H1 t2 x1 tb1 w1 => ?_⟩
    obtain ⟨dx', t', ea', hw'⟩ := hb.ext x1
    obtain ⟨ps, o, wa, wb, wc⟩ := id hw'
    refine ⟨_, rfl, b, _, dx', _, _, rfl, ea', cls_Bag T, na_Bag_words T, flds_words _ _, _, _, _, _, true, rfl, .ty "tuple", .fTuple wa, kit_ty (by decide +kernel), true, rfl, iteT ?_⟩
    refine ⟨_, rfl, b, _, dx', _, _, rfl, ea', cls_Bag T, na_Bag_words T, flds_words _ _, _, rfl, dW (canon l), dW (canon l), dp_words hw', dp_words w1, dW_plain _, dW_plain _, dW_depth _, _, rfl, ?_⟩
    rw [dW_eqv, decide_eq_true rfl]
    refine iteT ?_
    obtain ⟨z1, z2, z3, z4⟩ := prD_vt hc vc hk
    refine ⟨_, rfl, b, _, dx', _, _, rfl, ea', cls_Bag T, na_Bag_words T, flds_words _ _, t', prD (canon l), rfl, dp_prs hw', z1, z2, z3, z4, ?_⟩
    refine ⟨_, rfl, t2, prD (canon l), rfl, dp_prs w1, z1, z2, z3, z4, ?_⟩
    refine ⟨rfl, ?_⟩
    rw [decide_eq_true rfl]
    exact q H1 x1 tb1
end
end Fp

set_option Elab.async false
set_option linter.all false
set_option maxRecDepth 100000
set_option maxHeartbeats 4000000
namespace Fp
open PySem PySem.Spec PyProof.Rows L2
/-! ### the order of words: total, no two alike -/
theorem leR_total : PySem.W.TotalLe leR := PySem.W.sortLe_total (listOrd itemOrd) false fun b => PySem.W.keyToks (rk b)
theorem rk_inj {a b : Str} (h : PySem.W.keyToks (rk a) = PySem.W.keyToks (rk b)) : a = b := by
  unfold rk at h
  simp only [PySem.W.keyToks, PySem.W.keyToksAll] at h
  have : a.cps.toList = b.cps.toList := by simp at h; rw [h.2]
  exact PySem.W.str_of_cps this
theorem leR_anti {a b : Str} (h1 : leR a b = true) (h2 : leR b a = true) : a = b := by
  have e1 : PySem.W.dataLt (rk b) (rk a) = false := by
    have : (!PySem.W.dataLt (rk b) (rk a)) = true := h1
    simpa using this
  have e2 : PySem.W.dataLt (rk a) (rk b) = false := by
    have : (!PySem.W.dataLt (rk a) (rk b)) = true := h2
    simpa using this
  exact rk_inj ((listOrd itemOrd).total _ _ e2 e1)
theorem ord_perm {l m : List Str} (h : l.Perm m) : l.mergeSort leR = m.mergeSort leR :=
  List.Perm.eq_of_pairwise (le := fun a b => leR a b = true) (fun a b _ _ h1 h2 => leR_anti h1 h2) (PySem.W.sort_pairwise leR_total l) (PySem.W.sort_pairwise leR_total m)
    (((List.mergeSort_perm l leR).trans h).trans (List.mergeSort_perm m leR).symm)
/-! ### tables in order -/
theorem num_find {l : Tb} (h : Nd l) {p : Str × Int} (hp : p ∈ l) : num l p.1 = p.2 := by
  obtain ⟨i, hi, e⟩ := List.mem_iff_getElem.mp hp
  exact num_of h (i := i) (by rw [List.getElem?_eq_getElem hi, e])
theorem num_not {l : Tb} {x : Str} (h : x ∉ l.map (·.1)) : num l x = 0 := by
  refine (valV_no ?_).2
  cases e : has l x with
  | false => rfl
  | true => exact absurd (has_iff.mp e) h
theorem canon_keys (l : Tb) : (canon l).map (·.1) = ordW l := by
  unfold canon
  rw [List.map_map]
  exact List.map_id' _
theorem canon_nd {l : Tb} (h : Nd l) : Nd (canon l) := by
  unfold Nd
  rw [canon_keys]
  exact (List.mergeSort_perm _ _).nodup_iff.mpr h
theorem canon_mem {l : Tb} {p : Str × Int} (h : p ∈ canon l) : p.1 ∈ l.map (·.1) ∧ p.2 = num l p.1 := by
  unfold canon at h
  obtain ⟨x, hx, rfl⟩ := List.mem_map.mp h
  exact ⟨ordW_mem.mp hx, rfl⟩
theorem canon_num {l : Tb} (h : Nd l) (x : Str) : num (canon l) x = num l x := by
  by_cases hx : x ∈ l.map (·.1)
  · have hm : (x, num l x) ∈ canon l := by
      unfold canon
      exact List.mem_map.mpr ⟨x, ordW_mem.mpr hx, rfl⟩
    exact num_find (canon_nd h) hm
  · rw [num_not hx, num_not]
    rw [canon_keys]
    exact fun z => hx (ordW_mem.mp z)
/-- the same words with the same numbers: the same in order -/
theorem canon_eq {l m : Tb} (hl : Nd l) (hm : Nd m) (hk : ∀ x, x ∈ l.map (·.1) ↔ x ∈ m.map (·.1)) (hn : ∀ x, num l x = num m x) : canon l = canon m := by
  have e : ordW l = ordW m := ord_perm ((List.perm_ext_iff_of_nodup hl hm).mpr hk)
  unfold canon
  rw [e]
  exact List.map_congr_left fun x _ => by rw [hn x]
theorem canon_canon {l : Tb} (h : Nd l) : canon (canon l) = canon l :=
  canon_eq (canon_nd h) h (fun x => by rw [canon_keys]; exact ordW_mem) (canon_num h)
theorem vt_canon {c : Int} {m k : Nat} {l : Tb} (h : VT c m k l) : VT c m k (canon l) := by
  have key : ∀ p ∈ canon l, p ∈ l := fun p hp => by
    obtain ⟨h1, h2⟩ := canon_mem hp
    obtain ⟨q, hq, e⟩ := List.mem_map.mp h1
    have := num_find h.nd hq
    have : p = q := by
      obtain ⟨a, b⟩ := p
      obtain ⟨a', b'⟩ := q
      simp only at e h2 this
      subst e
      rw [h2, this]
    rw [this]
    exact hq
  refine ⟨canon_nd h.nd, fun p hp => h.nu p (key p hp), fun p hp => h.wd p (key p hp), ?_⟩
  have : (canon l).length = l.length := by
    unfold canon
    rw [List.length_map, ordW_len]
  rw [this]
  exact h.ln
/-- a number changed: not the same -/
theorem canon_ne {l m : Tb} (hl : Nd l) (hm : Nd m) {x : Str} (h : num l x ≠ num m x) : canon l ≠ canon m := fun e => h (by rw [← canon_num hl, ← canon_num hm, e])
theorem num_put {l : Tb} (x : Str) (n : Int) : num (putT l x n) x = n := by
  unfold putT
  cases e : has l x with
  | true =>
    rw [if_pos rfl]
    unfold num
    have : ∀ r : Tb, has r x = true → ((r.map fun p => if p.1 = x then (p.1, n) else p).find? fun p => decide (p.1 = x)).map (·.2) = some n := by
      intro r
      induction r with
      | nil => intro h; cases h
      | cons p r ih =>
        intro h
        by_cases hp : p.1 = x
        · rw [List.map_cons, if_pos hp, List.find?_cons_of_pos (by simpa using hp)]
          rfl
        · rw [List.map_cons, if_neg hp, List.find?_cons_of_neg (by simpa using hp)]
          refine ih ?_
          unfold has at h ⊢
          rw [List.any_cons] at h
          simpa [hp] using h
    rw [this l e]
    rfl
  | false =>
    rw [if_neg Bool.false_ne_true]
    unfold num
    rw [List.find?_append]
    have : l.find? (fun p => decide (p.1 = x)) = none := by
      rw [has_find] at e
      cases z : l.find? fun p => decide (p.1 = x) with
      | none => rfl
      | some p => rw [z] at e; cases e
    rw [this]
    simp
theorem num_drop {l : Tb} (x : Str) : num (dropT l x) x = 0 := by
  refine num_not fun h => ?_
  obtain ⟨p, hp, e⟩ := List.mem_map.mp h
  have := (List.mem_filter.mp hp).2
  simp [e] at this
theorem num_putM (c : Int) (l : Tb) (x : Str) (n : Int) : num (putM c l x n) x = (num l x + n) % c := by
  unfold putM
  split
  · rename_i h
    rw [num_drop, h]
  · exact num_put x _
theorem num_range {c : Int} {m k : Nat} {l : Tb} (hc : 0 < c) (h : VT c m k l) (x : Str) : 0 ≤ num l x ∧ num l x < c := by
  by_cases hx : x ∈ l.map (·.1)
  · obtain ⟨p, hp, rfl⟩ := List.mem_map.mp hx
    rw [num_find h.nd hp]
    have := h.nu p hp
    omega
  · rw [num_not hx]
    omega
/-- words put in backward -/
theorem puts_new : ∀ (xs : List Str) (f : Str → Int) (a : Tb), (a.map (·.1) ++ xs).Nodup → xs.foldl (fun a x => putT a x (f x)) a = a ++ xs.map fun x => (x, f x)
  | [], f, a, _ => by simp
  | x :: r, f, a, h => by
    have h1 : x ∉ a.map (·.1) := fun z => by
      have := (List.nodup_append.mp h).2.2 x z x List.mem_cons_self
      exact this rfl
    have e : putT a x (f x) = a ++ [(x, f x)] := by
      unfold putT
      have : has a x = false := by
        cases z : has a x with
        | false => rfl
        | true => exact absurd (has_iff.mp z) h1
      rw [this, if_neg Bool.false_ne_true]
    rw [List.foldl_cons, e, puts_new r f _ (by rw [List.map_append, List.append_assoc]; exact h), List.map_cons, List.append_assoc]
    rfl
def backT (l : Tb) : Tb := (ordW l).reverse.map fun x => (x, num l x)
theorem backT_keys (l : Tb) : (backT l).map (·.1) = (ordW l).reverse := by
  unfold backT
  rw [List.map_map]
  exact List.map_id' _
theorem ordW_nd {l : Tb} (h : Nd l) : (ordW l).Nodup := (List.mergeSort_perm _ _).nodup_iff.mpr h
theorem backT_nd {l : Tb} (h : Nd l) : Nd (backT l) := by
  unfold Nd
  rw [backT_keys]
  exact (List.reverse_perm _).nodup_iff.mpr (ordW_nd h)
theorem backT_num {l : Tb} (h : Nd l) (x : Str) : num (backT l) x = num l x := by
  by_cases hx : x ∈ l.map (·.1)
  · have hm : (x, num l x) ∈ backT l := by
      unfold backT
      exact List.mem_map.mpr ⟨x, List.mem_reverse.mpr (ordW_mem.mpr hx), rfl⟩
    exact num_find (backT_nd h) hm
  · rw [num_not hx, num_not]
    rw [backT_keys]
    exact fun z => hx (ordW_mem.mp (List.mem_reverse.mp z))
theorem backT_canon {l : Tb} (h : Nd l) : canon (backT l) = canon l :=
  canon_eq (backT_nd h) h (fun x => by rw [backT_keys, List.mem_reverse]; exact ordW_mem) (backT_num h)
theorem vt_back {c : Int} {m k : Nat} {l : Tb} (h : VT c m k l) : VT c m k (backT l) := by
  have key : ∀ p ∈ backT l, p ∈ l := fun p hp => by
    unfold backT at hp
    obtain ⟨x, hx, rfl⟩ := List.mem_map.mp hp
    obtain ⟨q, hq, e⟩ := List.mem_map.mp (ordW_mem.mp (List.mem_reverse.mp hx))
    have := num_find h.nd hq
    obtain ⟨a, b⟩ := q
    simp only at e this
    subst e
    rw [this]
    exact hq
  refine ⟨backT_nd h.nd, fun p hp => h.nu p (key p hp), fun p hp => h.wd p (key p hp), ?_⟩
  unfold backT
  rw [List.length_map, List.length_reverse, ordW_len]
  exact h.ln
end Fp

set_option Elab.async false
set_option linter.all false
set_option maxRecDepth 100000
set_option maxHeartbeats 4000000
namespace Fp
open PySem PySem.Spec PyProof.Rows L2
/-! ### sums of numbers by words -/
def tot (es : Tb) (x : Str) : Int := (es.map fun p => if p.1 = x then p.2 else 0).sum
theorem tot_nil (x : Str) : tot [] x = 0 := rfl
theorem tot_cons (p : Str × Int) (r : Tb) (x : Str) : tot (p :: r) x = (if p.1 = x then p.2 else 0) + tot r x := by
  unfold tot
  rw [List.map_cons, List.sum_cons]
theorem tot_app (a b : Tb) (x : Str) : tot (a ++ b) x = tot a x + tot b x := by
  induction a with
  | nil => rw [List.nil_append, tot_nil, Int.zero_add]
  | cons p r ih => rw [List.cons_append, tot_cons, tot_cons, ih, Int.add_assoc]
theorem tot_not {l : Tb} {x : Str} (h : x ∉ l.map (·.1)) : tot l x = 0 := by
  induction l with
  | nil => rfl
  | cons p r ih =>
    rw [tot_cons, if_neg (fun z : p.1 = x => h (by rw [← z]; exact List.mem_cons_self)), ih (fun z => h (List.mem_cons_of_mem _ z)), Int.zero_add]
theorem num_cons (p : Str × Int) (r : Tb) (x : Str) : num (p :: r) x = if p.1 = x then p.2 else num r x := by
  unfold num
  by_cases h : p.1 = x
  · rw [List.find?_cons_of_pos (by simpa using h), if_pos h]
    rfl
  · rw [List.find?_cons_of_neg (by simpa using h), if_neg h]
theorem tot_num {l : Tb} (h : Nd l) (x : Str) : tot l x = num l x := by
  induction l with
  | nil => rfl
  | cons p r ih =>
    have h' : (p.1 :: r.map (·.1)).Nodup := h
    obtain ⟨h1, h2⟩ := List.nodup_cons.mp h'
    rw [tot_cons, num_cons]
    by_cases e : p.1 = x
    · rw [if_pos e, if_pos e, tot_not (e ▸ h1), Int.add_zero]
    · rw [if_neg e, if_neg e, Int.zero_add, ih h2]
theorem num_put_ne {l : Tb} {x y : Str} (n : Int) (h : x ≠ y) : num (putT l x n) y = num l y := by
  unfold putT
  cases has l x with
  | true =>
    rw [if_pos rfl]
    induction l with
    | nil => rfl
    | cons p r ih =>
      rw [List.map_cons, num_cons, num_cons, ih]
      by_cases e : p.1 = x
      · rw [if_pos e]
        show (if p.1 = y then n else num r y) = _
        rw [if_neg (fun z => h (e ▸ z)), if_neg (fun z => h (e ▸ z))]
      · rw [if_neg e]
  | false =>
    rw [if_neg Bool.false_ne_true]
    induction l with
    | nil =>
      rw [List.nil_append, num_cons, if_neg h]
    | cons p r ih => rw [List.cons_append, num_cons, num_cons, ih]
theorem num_drop_ne {l : Tb} {x y : Str} (h : x ≠ y) : num (dropT l x) y = num l y := by
  unfold dropT
  induction l with
  | nil => rfl
  | cons p r ih =>
    by_cases e : p.1 = x
    · rw [List.filter_cons_of_neg (by simpa using e), ih, num_cons, if_neg (fun z => h (e ▸ z))]
    · rw [List.filter_cons_of_pos (by simpa using e), num_cons, num_cons, ih]
theorem num_putM_ne (c : Int) {l : Tb} {x y : Str} (n : Int) (h : x ≠ y) : num (putM c l x n) y = num l y := by
  unfold putM
  split
  · exact num_drop_ne h
  · exact num_put_ne _ h
/-- the law's putting, entry by entry -/
theorem num_foldM {c : Int} : ∀ (es : Tb) (a : Tb) (x : Str), num (es.foldl (fun a p => putM c a p.1 p.2) a) x % c = (num a x + tot es x) % c
  | [], a, x => by rw [tot_nil, Int.add_zero]; rfl
  | p :: r, a, x => by
    rw [List.foldl_cons, num_foldM r, tot_cons]
    by_cases e : p.1 = x
    · subst e
      rw [num_putM, if_pos rfl, Int.emod_add_emod, Int.add_assoc]
    · rw [num_putM_ne _ _ e, if_neg e, Int.zero_add]
/-- laying to, entry by entry -/
def addT (es a : Tb) : Tb := es.foldl (fun a p => putT a p.1 (num a p.1 + p.2)) a
theorem num_addT : ∀ (es a : Tb) (x : Str), num (addT es a) x = num a x + tot es x
  | [], a, x => by rw [tot_nil, Int.add_zero]; rfl
  | p :: r, a, x => by
    have e0 : addT (p :: r) a = addT r (putT a p.1 (num a p.1 + p.2)) := rfl
    rw [e0, num_addT r, tot_cons]
    by_cases e : p.1 = x
    · subst e
      rw [num_put, if_pos rfl, Int.add_assoc]
    · rw [num_put_ne _ e, if_neg e, Int.zero_add]
theorem nd_addT : ∀ (es a : Tb), Nd a → Nd (addT es a)
  | [], a, h => h
  | p :: r, a, h => nd_addT r _ (nd_put h _ _)
theorem len_addT : ∀ (es a : Tb), (addT es a).length ≤ a.length + es.length
  | [], a => Nat.le_refl _
  | p :: r, a => by
    have h1 := len_addT r (putT a p.1 (num a p.1 + p.2))
    have h2 := len_put a p.1 (num a p.1 + p.2)
    have e0 : addT (p :: r) a = addT r (putT a p.1 (num a p.1 + p.2)) := rfl
    rw [e0, List.length_cons]
    omega
theorem key_put {l : Tb} {x : Str} {n : Int} {q : Str × Int} (h : q ∈ putT l x n) : q.1 = x ∨ ∃ p ∈ l, p.1 = q.1 := by
  rcases mem_put h with rfl | h
  · exact .inl rfl
  · exact .inr ⟨q, h, rfl⟩
theorem key_addT : ∀ (es a : Tb) (q : Str × Int), q ∈ addT es a → (∃ p ∈ a, p.1 = q.1) ∨ ∃ p ∈ es, p.1 = q.1
  | [], a, q, h => .inl ⟨q, h, rfl⟩
  | p :: r, a, q, h => by
    rcases key_addT r _ q h with ⟨p', h1, h2⟩ | ⟨p', h1, h2⟩
    · rcases key_put h1 with e | ⟨p2, h3, h4⟩
      · exact .inr ⟨p, List.mem_cons_self, e ▸ h2⟩
      · exact .inl ⟨p2, h3, h4.trans h2⟩
    · exact .inr ⟨p', List.mem_cons_of_mem _ h1, h2⟩
/-- tidied -/
def tidyM (c : Int) (l : Tb) : Tb := (l.filter fun p => decide (p.2 % c ≠ 0)).map fun p => (p.1, p.2 % c)
theorem tidy_keys {c : Int} {l : Tb} {q : Str × Int} (h : q ∈ tidyM c l) : ∃ p ∈ l, q = (p.1, p.2 % c) ∧ p.2 % c ≠ 0 := by
  unfold tidyM at h
  obtain ⟨p, hp, rfl⟩ := List.mem_map.mp h
  obtain ⟨h1, h2⟩ := List.mem_filter.mp hp
  exact ⟨p, h1, rfl, of_decide_eq_true h2⟩
theorem tidy_nd {c : Int} {l : Tb} (h : Nd l) : Nd (tidyM c l) := by
  unfold Nd tidyM
  rw [List.map_map]
  have : ((fun p : Str × Int => p.1) ∘ fun p : Str × Int => (p.1, p.2 % c)) = fun p => p.1 := rfl
  rw [this]
  exact (List.Sublist.map _ List.filter_sublist).nodup h
theorem tidy_len {c : Int} {l : Tb} : (tidyM c l).length ≤ l.length := by
  unfold tidyM
  rw [List.length_map]
  exact List.length_filter_le _ _
theorem tidy_rg {c : Int} {l : Tb} (hc : 0 < c) : ∀ q ∈ tidyM c l, 1 ≤ q.2 ∧ q.2 < c := fun q hq => by
  obtain ⟨p, _, rfl, h⟩ := tidy_keys hq
  have h1 := Int.emod_nonneg p.2 (show c ≠ 0 by omega)
  have h2 := Int.emod_lt_of_pos p.2 hc
  show 1 ≤ p.2 % c ∧ p.2 % c < c
  omega
theorem num_tidy {c : Int} {l : Tb} (h : Nd l) (x : Str) : num (tidyM c l) x = num l x % c := by
  unfold tidyM
  induction l with
  | nil => rfl
  | cons p r ih =>
    have h' : (p.1 :: r.map (·.1)).Nodup := h
    obtain ⟨h1, h2⟩ := List.nodup_cons.mp h'
    have ih := ih h2
    rw [num_cons]
    by_cases e : p.2 % c = 0
    · rw [List.filter_cons_of_neg (by simpa using e), ih]
      by_cases e2 : p.1 = x
      · rw [if_pos e2, e, num_not (e2 ▸ h1)]
        rfl
      · rw [if_neg e2]
    · rw [List.filter_cons_of_pos (by simpa using e), List.map_cons, num_cons]
      by_cases e2 : p.1 = x
      · rw [if_pos e2, if_pos e2]
      · rw [if_neg e2, if_neg e2, ih]
theorem vt_tidy {c : Int} {m : Nat} {l : Tb} (hc : 0 < c) (h : Nd l) (hw : ∀ p ∈ l, xyz p.1 ∧ p.1.length ≤ m) : VT c m l.length (tidyM c l) :=
  ⟨tidy_nd h, tidy_rg hc, fun q hq => by
    obtain ⟨p, hp, rfl, _⟩ := tidy_keys hq
    exact hw p hp, tidy_len⟩
/-! ### two tables with the same numbers are the same in order -/
theorem rg_key {l : Tb} (h : Nd l) (hr : ∀ p ∈ l, 1 ≤ p.2) (x : Str) : x ∈ l.map (·.1) ↔ num l x ≠ 0 := by
  constructor
  · intro hx
    obtain ⟨p, hp, rfl⟩ := List.mem_map.mp hx
    rw [num_find h hp]
    have := hr p hp
    omega
  · intro hn
    by_cases hx : x ∈ l.map (·.1)
    · exact hx
    · exact absurd (num_not hx) hn
theorem canon_ext {l m : Tb} (hl : Nd l) (hm : Nd m) (rl : ∀ p ∈ l, 1 ≤ p.2) (rm : ∀ p ∈ m, 1 ≤ p.2) (h : ∀ x, num l x = num m x) : canon l = canon m :=
  canon_eq hl hm (fun x => by rw [rg_key hl rl, rg_key hm rm, h x]) h
theorem num_mod {c : Int} {m k : Nat} {l : Tb} (hc : 0 < c) (h : VT c m k l) (x : Str) : num l x % c = num l x :=
  Int.emod_eq_of_lt (num_range hc h x).1 (num_range hc h x).2
/-- tables by a clock -/
theorem vt_ext {c : Int} {m k m' k' : Nat} {l l' : Tb} (h : VT c m k l) (h' : VT c m' k' l') (e : ∀ x, num l x = num l' x) : canon l = canon l' :=
  canon_ext h.nd h'.nd (fun p hp => (h.nu p hp).1) (fun p hp => (h'.nu p hp).1) e
/-! ### what the law's sums and products have -/
def scl (f : Int) (l : Tb) : Tb := l.map fun p => (p.1, f * p.2)
theorem tot_scl (f : Int) (l : Tb) (x : Str) : tot (scl f l) x = f * tot l x := by
  induction l with
  | nil => rw [tot_nil, Int.mul_zero]; rfl
  | cons p r ih =>
    have e : scl f (p :: r) = (p.1, f * p.2) :: scl f r := rfl
    rw [e, tot_cons, tot_cons, ih, Int.mul_add]
    by_cases h : p.1 = x
    · rw [if_pos h, if_pos h]
    · rw [if_neg h, if_neg h, Int.mul_zero]
theorem num_plusM {c f : Int} {m k m' k' : Nat} {l1 l2 : Tb} (hc : 0 < c) (h1 : VT c m k l1) (h2 : VT c m k' l2) (x : Str) : num (plusM c l1 l2 f) x = (num l1 x + f * num l2 x) % c := by
  have v := vt_plusM hc h1 h2 f
  rw [← num_mod hc v x]
  have e : plusM c l1 l2 f = (scl f l2).foldl (fun a p => putM c a p.1 p.2) l1 := by
    unfold plusM scl
    rw [List.foldl_map]
  rw [e, num_foldM, tot_scl, tot_num h2.nd]
/-- each word of one with each of the other behind it -/
def prs (l m : Tb) : Tb := l.flatMap fun p => m.map fun q => (p.1 ++ q.1, p.2 * q.2)
theorem prs_cons (p : Str × Int) (l m : Tb) : prs (p :: l) m = (m.map fun q => (p.1 ++ q.1, p.2 * q.2)) ++ prs l m := List.flatMap_cons
theorem prodM_tab (c : Int) (l m : Tb) : prodM c l m = (prs l m).foldl (fun a p => putM c a p.1 p.2) [] := by
  have key : ∀ (l : Tb) (a : Tb), l.foldl (fun acc p => m.foldl (fun acc q => putM c acc (p.1 ++ q.1) (p.2 * q.2)) acc) a = (prs l m).foldl (fun a p => putM c a p.1 p.2) a := by
    intro l
    induction l with
    | nil => intro a; rfl
    | cons p r ih =>
      intro a
      rw [List.foldl_cons, ih, prs_cons, List.foldl_append, List.foldl_map]
  exact key l []
theorem num_prodM {c : Int} {m1 k1 m2 k2 : Nat} {l1 l2 : Tb} (hc : 0 < c) (h1 : VT c m1 k1 l1) (h2 : VT c m2 k2 l2) (x : Str) : num (prodM c l1 l2) x = tot (prs l1 l2) x % c := by
  rw [← num_mod hc (vt_prodM hc h1 h2) x, prodM_tab, num_foldM]
  have : num [] x = 0 := rfl
  rw [this, Int.zero_add]
def multT (l m : Tb) : Tb := addT (prs l m) []
/-! ### products by their totals -/
theorem str_cancel {u v w : Str} (h : u ++ v = u ++ w) : v = w := by
  have e : (u ++ v).cps.toList = (u ++ w).cps.toList := by rw [h]
  have e1 : ∀ a b : Str, (a ++ b).cps.toList = a.cps.toList ++ b.cps.toList := fun a b => by
    show (a.cps ++ b.cps).toList = _
    exact Array.toList_append
  rw [e1, e1] at e
  exact PySem.W.str_of_cps (List.append_cancel_left e)
theorem str_cancel_r {u v w : Str} (h : v ++ u = w ++ u) : v = w := by
  have e : (v ++ u).cps.toList = (w ++ u).cps.toList := by rw [h]
  have e1 : ∀ a b : Str, (a ++ b).cps.toList = a.cps.toList ++ b.cps.toList := fun a b => by
    show (a.cps ++ b.cps).toList = _
    exact Array.toList_append
  rw [e1, e1] at e
  exact PySem.W.str_of_cps (List.append_cancel_right e)
theorem str_assoc (u v w : Str) : (u ++ v) ++ w = u ++ (v ++ w) := by
  apply PySem.W.str_of_cps
  have e1 : ∀ a b : Str, (a ++ b).cps.toList = a.cps.toList ++ b.cps.toList := fun a b => by
    show (a.cps ++ b.cps).toList = _
    exact Array.toList_append
  rw [e1, e1, e1, e1, List.append_assoc]
/-- a word put ahead of each -/
def fwd (p : Str × Int) (m : Tb) : Tb := m.map fun q => (p.1 ++ q.1, p.2 * q.2)
theorem tot_fwd (p : Str × Int) (m : Tb) (x : Str) : (∃ v, p.1 ++ v = x ∧ tot (fwd p m) x = p.2 * tot m v) ∨ ((∀ v, p.1 ++ v ≠ x) ∧ tot (fwd p m) x = 0) := by
  by_cases h : ∃ v, p.1 ++ v = x
  · obtain ⟨v, hv⟩ := h
    refine .inl ⟨v, hv, ?_⟩
    induction m with
    | nil => rw [tot_nil, Int.mul_zero]; rfl
    | cons q r ih =>
      have e : fwd p (q :: r) = (p.1 ++ q.1, p.2 * q.2) :: fwd p r := rfl
      rw [e, tot_cons, tot_cons, ih, Int.mul_add]
      by_cases z : q.1 = v
      · rw [if_pos z, if_pos (by rw [z]; exact hv)]
      · rw [if_neg z, if_neg (fun y => z (str_cancel (y.trans hv.symm))), Int.mul_zero]
  · have h' : ∀ v, p.1 ++ v ≠ x := fun v hv => h ⟨v, hv⟩
    refine .inr ⟨h', ?_⟩
    induction m with
    | nil => rfl
    | cons q r ih =>
      have e : fwd p (q :: r) = (p.1 ++ q.1, p.2 * q.2) :: fwd p r := rfl
      rw [e, tot_cons, if_neg (h' q.1), ih, Int.zero_add]
def bwd (q : Str × Int) (l : Tb) : Tb := l.map fun p => (p.1 ++ q.1, p.2 * q.2)
theorem tot_bwd (q : Str × Int) (l : Tb) (x : Str) : (∃ v, v ++ q.1 = x ∧ tot (bwd q l) x = tot l v * q.2) ∨ ((∀ v, v ++ q.1 ≠ x) ∧ tot (bwd q l) x = 0) := by
  by_cases h : ∃ v, v ++ q.1 = x
  · obtain ⟨v, hv⟩ := h
    refine .inl ⟨v, hv, ?_⟩
    induction l with
    | nil => rw [tot_nil, Int.zero_mul]; rfl
    | cons p r ih =>
      have e : bwd q (p :: r) = (p.1 ++ q.1, p.2 * q.2) :: bwd q r := rfl
      rw [e, tot_cons, tot_cons, ih, Int.add_mul]
      by_cases z : p.1 = v
      · rw [if_pos z, if_pos (by rw [z]; exact hv)]
      · rw [if_neg z, if_neg (fun y => z (str_cancel_r (y.trans hv.symm))), Int.zero_mul]
  · have h' : ∀ v, v ++ q.1 ≠ x := fun v hv => h ⟨v, hv⟩
    refine .inr ⟨h', ?_⟩
    induction l with
    | nil => rfl
    | cons p r ih =>
      have e : bwd q (p :: r) = (p.1 ++ q.1, p.2 * q.2) :: bwd q r := rfl
      rw [e, tot_cons, if_neg (h' p.1), ih, Int.zero_add]
theorem tot_prs_cons (p : Str × Int) (l m : Tb) (x : Str) : tot (prs (p :: l) m) x = tot (fwd p m) x + tot (prs l m) x := by
  rw [prs_cons, tot_app]
  rfl
theorem prs_nil_r (l : Tb) : prs l [] = [] := by
  induction l with
  | nil => rfl
  | cons p r ih => rw [prs_cons, ih]; rfl
theorem tot_prs_cons_r (q : Str × Int) (l m : Tb) (x : Str) : tot (prs l (q :: m)) x = tot (bwd q l) x + tot (prs l m) x := by
  induction l with
  | nil => rfl
  | cons p r ih =>
    rw [tot_prs_cons, tot_prs_cons, ih]
    have e1 : fwd p (q :: m) = (p.1 ++ q.1, p.2 * q.2) :: fwd p m := rfl
    have e2 : bwd q (p :: r) = (p.1 ++ q.1, p.2 * q.2) :: bwd q r := rfl
    rw [e1, e2, tot_cons, tot_cons]
    omega
/-- alike by a clock -/
def Lk (c : Int) (l m : Tb) : Prop := ∀ x, tot l x % c = tot m x % c
theorem Lk.refl (c : Int) (l : Tb) : Lk c l l := fun _ => rfl
theorem Lk.symm {c : Int} {l m : Tb} (h : Lk c l m) : Lk c m l := fun x => (h x).symm
theorem Lk.trans {c : Int} {l m n : Tb} (h : Lk c l m) (g : Lk c m n) : Lk c l n := fun x => (h x).trans (g x)
theorem Lk.app {c : Int} {l l' m m' : Tb} (h : Lk c l l') (g : Lk c m m') : Lk c (l ++ m) (l' ++ m') := fun x => by
  rw [tot_app, tot_app, Int.add_emod, h x, g x, ← Int.add_emod]
theorem Lk.scl {c : Int} (f : Int) {l l' : Tb} (h : Lk c l l') : Lk c (scl f l) (Fp.scl f l') := fun x => by
  rw [tot_scl, tot_scl, Int.mul_emod, h x, ← Int.mul_emod]
theorem Lk.prs_r {c : Int} (l : Tb) {m m' : Tb} (h : Lk c m m') : Lk c (prs l m) (prs l m') := fun x => by
  induction l with
  | nil => rfl
  | cons p r ih =>
    rw [tot_prs_cons, tot_prs_cons, Int.add_emod, ih]
    have : tot (fwd p m) x % c = tot (fwd p m') x % c := by
      rcases tot_fwd p m x with ⟨v, hv, e⟩ | ⟨hn, e⟩
      · rcases tot_fwd p m' x with ⟨v', hv', e'⟩ | ⟨hn, e'⟩
        · have : v = v' := str_cancel (hv.trans hv'.symm)
          rw [e, e', this, Int.mul_emod, h v', ← Int.mul_emod]
        · exact absurd hv (hn v)
      · rcases tot_fwd p m' x with ⟨v', hv', e'⟩ | ⟨_, e'⟩
        · exact absurd hv' (hn v')
        · rw [e, e']
    rw [this, ← Int.add_emod]
theorem Lk.prs_l {c : Int} {l l' : Tb} (m : Tb) (h : Lk c l l') : Lk c (prs l m) (prs l' m) := fun x => by
  induction m with
  | nil => rw [prs_nil_r, prs_nil_r]
  | cons q r ih =>
    rw [tot_prs_cons_r, tot_prs_cons_r, Int.add_emod, ih]
    have : tot (bwd q l) x % c = tot (bwd q l') x % c := by
      rcases tot_bwd q l x with ⟨v, hv, e⟩ | ⟨hn, e⟩
      · rcases tot_bwd q l' x with ⟨v', hv', e'⟩ | ⟨hn, e'⟩
        · have : v = v' := str_cancel_r (hv.trans hv'.symm)
          rw [e, e', this, Int.mul_emod, h v', ← Int.mul_emod]
        · exact absurd hv (hn v)
      · rcases tot_bwd q l' x with ⟨v', hv', e'⟩ | ⟨_, e'⟩
        · exact absurd hv' (hn v')
        · rw [e, e']
    rw [this, ← Int.add_emod]
theorem Lk.prs {c : Int} {l l' m m' : Tb} (h : Lk c l l') (g : Lk c m m') : Lk c (prs l m) (Fp.prs l' m') := (Lk.prs_l m h).trans (Lk.prs_r l' g)
theorem prs_assoc (l m n : Tb) : prs (prs l m) n = prs l (prs m n) := by
  unfold prs
  rw [List.flatMap_assoc]
  congr 1
  funext p
  rw [List.flatMap_map, List.map_flatMap]
  congr 1
  funext q
  rw [List.map_map]
  congr 1
  funext r
  simp only [Function.comp]
  rw [str_assoc, Int.mul_assoc]
theorem prs_app_r (l m n : Tb) (x : Str) : tot (prs l (m ++ n)) x = tot (prs l m ++ prs l n) x := by
  induction l with
  | nil => rfl
  | cons p r ih =>
    rw [tot_app] at ih ⊢
    rw [tot_prs_cons, tot_prs_cons, tot_prs_cons, ih]
    have e : fwd p (m ++ n) = fwd p m ++ fwd p n := by unfold fwd; rw [List.map_append]
    rw [e, tot_app]
    omega
theorem str_nil_l (x : Str) : ("" : Str) ++ x = x := PySem.W.str_of_cps (by show ((#[] : Array Nat) ++ x.cps).toList = _; simp)
theorem str_nil_r (x : Str) : x ++ ("" : Str) = x := PySem.W.str_of_cps (by show (x.cps ++ (#[] : Array Nat)).toList = _; simp)
theorem prs_one_l (m : Tb) : prs [("", 1)] m = m := by
  rw [prs_cons]
  have : prs [] m = [] := rfl
  rw [this, List.append_nil]
  have e : (fun q : Str × Int => (((("" : Str), (1 : Int)).1 ++ q.1, (("" : Str), (1 : Int)).2 * q.2) : Str × Int)) = id := by
    funext q
    show ((("" : Str) ++ q.1, 1 * q.2) : Str × Int) = q
    rw [str_nil_l, Int.one_mul]
  rw [e, List.map_id]
theorem prs_one_r (l : Tb) : prs l [("", 1)] = l := by
  induction l with
  | nil => rfl
  | cons p r ih =>
    rw [prs_cons, ih]
    show ((p.1 ++ ("" : Str), p.2 * 1) : Str × Int) :: r = _
    rw [str_nil_r, Int.mul_one]
end Fp

set_option Elab.async false
set_option linter.all false
set_option maxRecDepth 100000
set_option maxHeartbeats 4000000
namespace L2
open PySem PySem.Spec PyProof.Rows
/-- a dict comprehension over what is walked: Pv by the turn and the heap, the new dict at D in it -/
theorem dc_it {J : It} {n : Nat} {G : Hp → Prop} {Y : Nat → Hp → V → Hp → Prop} (wk : Walk J n G Y) {g : TG} {tt : TT} {tk tv : TE} {vs : List Nat} {σ : St} {H1 : Hp} {D : Addr} {Qd : Hp → Prop} (Pv : Nat → Hp → Prop) (z0 : Pv 0 (upd H1 D (.dK [])))
    (zG : ∀ i H, i ≤ n → Pv i H → G H)
    (zs : ∀ i x H H', i < n → Pv i H → Y i H x H' → g x (wipe σ vs) H' fun σ2 H2 => wipe σ2 vs = wipe σ vs ∧ tt σ2 H2 fun b H3 =>
      if b = true then tk σ2 H3 fun y H4 => tv σ2 H4 fun z H5 => ∃ kvs k, y = kV k ∧ H5 D = some (.dK kvs) ∧ kvs.length < sizeLine ∧ Pv (i + 1) (upd H5 D (.dK (putK kvs k z))) else Pv (i + 1) H3)
    (zd : ∀ H, Pv n H → Qd H) :
    ∃ W : Nat → Nat → Hp → Prop, (∃ m, W 0 m (upd H1 D (.dK []))) ∧ ∀ i m H, W i m H →
      (J.stop i H ∧ Qd H) ∨ (J.go i H ∧ ∃ Nx : Hp → Prop, (∀ H', Nx H' → ∃ m', m' < m ∧ W (i + 1) m' H') ∧ ∀ x H', J.yld i H x H' → g x (wipe σ vs) H' fun σ2 H2 => wipe σ2 vs = wipe σ vs ∧ tt σ2 H2 fun b H3 =>
        if b = true then tk σ2 H3 fun y H4 => tv σ2 H4 fun z H5 => ∃ kvs k, y = kV k ∧ H5 D = some (.dK kvs) ∧ kvs.length < sizeLine ∧ Nx (upd H5 D (.dK (putK kvs k z))) else Nx H3) := by
  refine ⟨fun i m H => (m = n - i ∧ i ≤ n) ∧ Pv i H, ⟨n, ⟨by simp, Nat.zero_le _⟩, z0⟩, ?_⟩
  rintro i m H ⟨⟨rfl, hi⟩, p⟩
  have q := zG i H hi p
  by_cases hlt : i < n
  · exact .inr ⟨wk.goes i H hlt q, Pv (i + 1), fun H' p' => ⟨n - (i + 1), by omega, ⟨rfl, hlt⟩, p'⟩, fun x H' y => zs i x H H' hlt p (wk.yields i H x H' hlt q y)⟩
  · obtain rfl : i = n := by omega
    exact .inl ⟨wk.stops H q, zd H p⟩
/-- X(), X an own class without __init__ -/
theorem pmk_own0 {X : Cx} {C : Addr} {bmB : List Value} {B newId initId : String} {x : Str} {p pos : Pos} (F : ExcBaseFacts B newId initId bmB) (q : PySem.W.excIn X.K C bmB newId = true) (gC : X.mg x = some (.ref C))
    (kC : PySem.W.keepIn X.K (.ref C) = true) (r : Raises X (.ref C)) (hg : Gl X x) (hdb : (x == ("__debug__" : Str)) = false := by decide) : PMk X (.Call (.Name x p) [] [] pos) (fun _ H Q => Q (.ref C) none H) := by
  intro pins s σ H Q I h
  refine wpAny_Call_Name_kw (ld_glob I hg gC ?_ hdb)
  refine PySem.W.callWith_K0 (K := X.K) I.kIn kC ?_
  show wpAny _ _ (call (.ref C) []) _ _ _
  obtain ⟨bm, N, nm, qn, bs, hdct, sn, sub, ab, col, dd, k0, k1, k2, k3, k5, mN, hC, hN, hni, T⟩ := exc_obj I.kIn q
  refine wpAny_call_exc_subT F T hC hN hni (fun h' e hm => ?_) (Nat.zero_le _)
  exact mk_of I hm r h (I.hok.gone hm.new)
abbrev tTru (K : PySem.W.Frag) (te : TE) : TT := fun σ H Q => te σ H fun x H' => ∃ k, TruV K x H' k ∧ Q k H'
abbrev tMod (a b : TE) : TE := tOp (rI (fun _ j => 0 < j) fun i j => .int (i % j)) a b
abbrev gPair (K : PySem.W.Frag) (i j : Nat) : TG := gTup K 2 (gCons (gName i) (gCons (gName j) gNil))
end L2
namespace Fp
open PySem PySem.Spec PyProof.Rows L2
theorem tidy_take (c : Int) {l : Tb} {i : Nat} {p : Str × Int} (e : l[i]? = some p) : tidyM c (l.take (i + 1)) = if p.2 % c ≠ 0 then tidyM c (l.take i) ++ [(p.1, p.2 % c)] else tidyM c (l.take i) := by
  unfold tidyM
  rw [List.take_add_one, e]
  simp only [Option.toList_some, List.filter_append, List.map_append]
  by_cases h : p.2 % c = 0
  · rw [if_neg (fun z => z h)]
    have : [p].filter (fun p => decide (p.2 % c ≠ 0)) = [] := List.filter_cons_of_neg (by simpa using h)
    rw [this]
    simp
  · rw [if_pos h]
    have : [p].filter (fun p => decide (p.2 % c ≠ 0)) = [p] := List.filter_cons_of_pos (by simpa using h)
    rw [this]
    rfl
theorem tidy_no (c : Int) {l : Tb} (h : Nd l) {i : Nat} {p : Str × Int} (e : l[i]? = some p) : has (tidyM c (l.take i)) p.1 = false := by
  cases z : has (tidyM c (l.take i)) p.1 with
  | false => rfl
  | true =>
    exfalso
    obtain ⟨q, hq, e2⟩ := List.mem_map.mp (has_iff.mp z)
    obtain ⟨p', hp', e3, _⟩ := tidy_keys hq
    rw [e3] at e2
    have h1 : Nd (l.take (i + 1)) := by
      unfold Nd
      rw [List.map_take]
      exact (List.take_sublist _ _).nodup h
    unfold Nd at h1
    rw [List.take_add_one, e, List.map_append] at h1
    have h2 := (List.nodup_append.mp h1).2.2
    exact h2 p'.1 (List.mem_map.mpr ⟨p', hp', rfl⟩) p.1 (by simp) e2
theorem kv_item {l : Tb} {i : Nat} {k v : V} (h1 : ((kv l)[i]?.map fun kv => kV kv.1) = some k) (h2 : ((kv l)[i]?.map Prod.snd) = some v) : ∃ p, l[i]? = some p ∧ k = .str p.1 ∧ v = .int p.2 := by
  unfold kv at h1 h2
  rw [List.getElem?_map] at h1 h2
  cases q : l[i]? with
  | none => rw [q] at h1; cases h1
  | some p =>
    rw [q] at h1 h2
    exact ⟨p, rfl, (Option.some.inj h1).symm, (Option.some.inj h2).symm⟩
section
variable {P : Program} {w : World} {K : PySem.W.Frag} {mg : Str → Option Value} {base : Heap}
def spTidied : Sp := fun vs H Q _ => ∃ (d : Addr) (c : Int) (l : Tb), vs = [.ref d, .int c] ∧ 0 < c ∧ H d = some (.dK (kv l)) ∧ Nd l ∧ l.length ≤ 1000000 ∧ ∀ H' D, Same H H' → H D = none → H' D = some (.dK (kv (tidyM c l))) → Q (.ref D) H'
abbrev nTidied : List Str := ["table", "clock", "word", "number"]
theorem sc_tidied : FnScope nTidied ["table", "clock"] (defScope s_tidied) := ⟨rfl, rfl, rfl, by decide +kernel, rfl, by decide +kernel, by decide +kernel⟩
theorem ok_tidied (T : Top K mg) : Ok P w K mg base 1 "tidied" ["table", "clock"] spTidied := by
  obtain ⟨fd, F⟩ := fn_tidied T
  refine ⟨⟨fd, ?_, F.bindsN fun _ _ _ _ _ _ us hl => match us, hl with | [_, _], _ => rfl⟩, g_tidied T, F.kp⟩
  refine F.ok sc_tidied (fun vs H Q E h => ?_) (fun cdv A outer s H vs Q E hr h => ?_)
  · obtain ⟨d, c, l, rfl, _⟩ := h
    rfl
  · obtain ⟨d, c, l, rfl, hc, hd, hnd, hll, q⟩ := h
    have nd := sc_tidied.nd
    have hu := hu_of hr
    have hs : sizeLine = 16777216 := sizeLine_eq
    refine ⟨_, PSs.nox (pss_one (ps_ret (pe_lock (pe_dc (own := [("word", 2), ("number", 3)]) (g := gPair K 2 3) (tt := tTru K (tMod (tVar 3) (tVar 1))) (tk := tVar 2) (tv := tMod (tVar 3) (tVar 1)) rfl nd (pi_items (pv 0)) (blkOk_by (N := nTidied) (sc := defScope s_tidied) (by decide +kernel))
      (fun _ _ _ _ _ => pg_tup rfl (pgs_cons (pg_name (i := 2) nd rfl (Or.inl rfl)) (pgs_cons (pg_name (i := 3) nd rfl (Or.inl rfl)) pgs_nil)))
      (fun _ _ _ _ _ => pts_one (pt_truth (pe_op op_mod (pv 3) (pv 1)) (fun _ => rfl))) (fun _ _ _ _ _ => pv 2) (fun _ _ _ _ _ => pe_op op_mod (pv 3) (pv 1)))))), ?_⟩
    refine ⟨d, _, hd, trivial, fun od => ?_⟩
    refine ⟨_, rfl, d, od, kv l, rfl, upd_same, fun D hD => ?_⟩
    have nD : D ≠ d := fun e => by
      rw [e, upd_same] at hD
      cases hD
    have hD0 : H D = none := by
      rw [upd_ne nD] at hD
      exact hD
    refine dc_it walk_items (fun i H' => H' D = some (.dK (kv (tidyM c (l.take i)))) ∧ But d H H' ∧ H' d = some (.frz od (.dK (kv l)))) ⟨upd_same, ?_, ?_⟩ (fun i H' _ hP => hP.2.2) ?_ ?_
    · intro b o e n
      rw [upd_ne (ne_of_none e hD0), upd_ne n]
      exact e
    · rw [upd_ne nD.symm]
      exact upd_same
    · rintro i x H1 H2 hi ⟨p1, p2, p3⟩ ⟨t, k, v, rfl, ht, rfl, e1, e2⟩
      obtain ⟨p, ep, rfl, rfl⟩ := kv_item e1 e2
      have nt : D ≠ t := ne_of_none p1 ht
      have ndt : d ≠ t := ne_of_none p3 ht
      refine ⟨t, _, rfl, .inl (.inl upd_same), rfl, ?_⟩
      refine ⟨_, _, rfl, _, _, rfl, rfl, rfl, ?_⟩
      refine ⟨_, rfl, _, rfl, _, _, rfl, rfl, hc, _, rfl, ?_⟩
      have et := tidy_take c ep
      have el : (tidyM c (l.take i)).length ≤ i := Nat.le_trans tidy_len (by rw [List.length_take]; omega)
      rw [kv_len] at hi
      refine ite2 (fun hz => ?_) (fun hz => ?_)
      · have hz' : p.2 % c ≠ 0 := by simpa using hz
        rw [if_pos hz'] at et
        refine ⟨_, rfl, _, rfl, _, rfl, _, _, rfl, rfl, hc, _, Sum.inr p.1, rfl, by rw [upd_ne nt]; exact p1, by rw [kv_len]; omega, ?_, ?_, ?_⟩
        · rw [upd_same, putK_kv, et]
          unfold putT
          rw [tidy_no c hnd ep, if_neg Bool.false_ne_true]
        · intro b o e n
          rw [upd_ne (ne_of_none e hD0), upd_ne (ne_of_none (p2 b o e n) ht)]
          exact p2 b o e n
        · rw [upd_ne nD.symm, upd_ne ndt]
          exact p3
      · have hz' : ¬ p.2 % c ≠ 0 := by simpa using hz
        rw [if_neg hz'] at et
        refine ⟨?_, ?_, ?_⟩
        · rw [upd_ne nt, et]
          exact p1
        · intro b o e n
          rw [upd_ne (ne_of_none (p2 b o e n) ht)]
          exact p2 b o e n
        · rw [upd_ne ndt]
          exact p3
    · rintro H' ⟨p1, p2, p3⟩
      rw [kv_len, List.take_length] at p1
      refine ⟨p3, q _ D (fun b o e => ?_) hD0 (by rw [upd_ne nD]; exact p1)⟩
      by_cases n : b = d
      · rw [n, upd_same, ← hd, ← n, e]
      · rw [upd_ne n]
        exact p2 b o e n
end
end Fp

set_option Elab.async false
set_option linter.all false
set_option maxRecDepth 100000
set_option maxHeartbeats 4000000
namespace Fp
open PySem PySem.Spec PyProof.Rows L2
theorem addT_app (a b x : Tb) : addT (a ++ b) x = addT b (addT a x) := by
  unfold addT
  rw [List.foldl_append]
theorem addT_take {es : Tb} {i : Nat} {p : Str × Int} (e : es[i]? = some p) (a : Tb) : addT (es.take (i + 1)) a = putT (addT (es.take i) a) p.1 (num (addT (es.take i) a) p.1 + p.2) := by
  rw [List.take_add_one, e, addT_app]
  rfl
theorem scl_get {f : Int} {l : Tb} {i : Nat} {p : Str × Int} (e : l[i]? = some p) : (scl f l)[i]? = some (p.1, f * p.2) := by
  unfold scl
  rw [List.getElem?_map, e]
  rfl
theorem scl_len (f : Int) (l : Tb) : (scl f l).length = l.length := List.length_map _
theorem fwd_get {q : Str × Int} {l : Tb} {i : Nat} {p : Str × Int} (e : l[i]? = some p) : (fwd q l)[i]? = some (q.1 ++ p.1, q.2 * p.2) := by
  unfold fwd
  rw [List.getElem?_map, e]
  rfl
theorem fwd_len (q : Str × Int) (l : Tb) : (fwd q l).length = l.length := List.length_map _
theorem prs_take {l m : Tb} {i : Nat} {p : Str × Int} (e : l[i]? = some p) : prs (l.take (i + 1)) m = prs (l.take i) m ++ fwd p m := by
  rw [List.take_add_one, e]
  unfold prs
  rw [List.flatMap_append]
  simp only [Option.toList_some, List.flatMap_cons, List.flatMap_nil, List.append_nil]
  rfl
theorem prs_len (l m : Tb) : (prs l m).length = l.length * m.length := by
  induction l with
  | nil => rw [show prs [] m = [] from rfl]; simp
  | cons p r ih => rw [prs_cons, List.length_append, ih, List.length_map, List.length_cons, Nat.add_mul]; omega
section
variable {P : Program} {w : World} {K : PySem.W.Frag} {mg : Str → Option Value} {base : Heap}
def spAdded : Sp := fun vs H Q _ => ∃ (d1 d2 : Addr) (f c : Int) (l1 l2 : Tb), vs = [.ref d1, .ref d2, .int f, .int c] ∧ 0 < c ∧ c ≤ 7 ∧ H d1 = some (.dK (kv l1)) ∧ H d2 = some (.dK (kv l2)) ∧ Nd l1 ∧ (∀ p ∈ l2, 0 ≤ p.2 ∧ p.2 < c) ∧ l1.length ≤ 400000 ∧ l2.length ≤ 400000 ∧
  ∀ H' D, Same H H' → H D = none → H' D = some (.dK (kv (tidyM c (addT (scl f l2) l1)))) → Q (.ref D) H'
abbrev nAdded : List Str := ["one", "other", "factor", "clock", "found", "word", "number"]
theorem sc_added : FnScope nAdded ["one", "other", "factor", "clock"] (defScope s_added) := ⟨rfl, rfl, rfl, by decide +kernel, rfl, by decide +kernel, by decide +kernel⟩
theorem ok_added (T : Top K mg) : Ok P w K mg base 2 "added" ["one", "other", "factor", "clock"] spAdded := by
  obtain ⟨fd, F⟩ := fn_added T
  refine ⟨⟨fd, ?_, F.bindsN fun _ _ _ _ _ _ us hl => match us, hl with | [_, _, _, _], _ => rfl⟩, g_added T, F.kp⟩
  refine F.ok sc_added (fun vs H Q E h => ?_) (fun cdv A outer s H vs Q E hr h => ?_)
  · obtain ⟨d1, d2, f, c, l1, l2, rfl, _⟩ := h
    rfl
  · obtain ⟨d1, d2, f, c, l1, l2, rfl, hc, hc7, h1, h2, hnd, hnu, hl1, hl2, q⟩ := h
    have nd := sc_added.nd
    have hu := hu_of hr
    have hs : sizeLine = 16777216 := sizeLine_eq
    refine ⟨_, PSs.nox (pss_cons (ps_set (i := 4) nd rfl (Or.inl rfl) (pe_callTy call_dictD (by rfl) (f_dict T) (by decide +kernel) (pa_cons (pv 0) pa_nil)))
      (pss_cons (ps_lock (ps_for PassesOwn.never rfl (pi_items (pv 1)) (pg_tup rfl (pgs_cons (pg_name (i := 5) nd rfl (Or.inl rfl)) (pgs_cons (pg_name (i := 6) nd rfl (Or.inl rfl)) pgs_nil)))
        (pss_one (ps_dput hu (pv 4) (pv 5) (pe_op op_add (pe_dget2 hu (pv 4) (pv 5) pe_int ⟨rfl, rfl, rfl, rfl⟩) (pe_op op_mul (pv 2) (pv 6))) rfl))))
      (pss_one (ps_ret (pc (ok_tidied T) hr (pa_cons (pv 4) (pa_cons (pv 3) pa_nil))))))), ?_⟩
    refine ⟨_, rfl, d1, kv l1, rfl, .inl h1, fun F0 hF => ?_⟩
    have n2F : d2 ≠ F0 := ne_of_none h2 hF
    refine ⟨d2, .dK (kv l2), by rw [upd_ne n2F]; exact h2, trivial, fun od => ?_⟩
    refine ⟨_, rfl, d2, od, kv l2, rfl, upd_same, ?_⟩
    refine for_it walk_items (fun i σ H' => (∃ v u, σ = [some (.ref d1), some (.ref d2), some (.int f), some (.int c), some (.ref F0), v, u]) ∧ H' F0 = some (.dK (kv (addT ((scl f l2).take i) l1))) ∧ But d2 H H' ∧ H' d2 = some (.frz od (.dK (kv l2))))
      ⟨⟨none, none, rfl⟩, ?_, ?_, upd_same⟩ (fun i σ H' _ hP => hP.2.2.2) ?_ ?_
    · rw [upd_ne n2F.symm, upd_same]
      rfl
    · intro b o e n
      rw [upd_ne n, upd_ne (ne_of_none e hF)]
      exact e
    · rintro i x σ H1 H2 hi ⟨⟨v, u, rfl⟩, p1, p2, p3⟩ ⟨t, k, v', rfl, ht, rfl, e1, e2⟩
      obtain ⟨p, ep, rfl, rfl⟩ := kv_item e1 e2
      have hn := hnu p (List.mem_of_getElem? ep)
      have nFt : F0 ≠ t := ne_of_none p1 ht
      have ndt : d2 ≠ t := ne_of_none p3 ht
      have p1' : (upd H1 t (.tup [.str p.1, .int p.2])) F0 = some (.dK (kv (addT ((scl f l2).take i) l1))) := by
        rw [upd_ne nFt]
        exact p1
      refine ⟨t, _, rfl, .inl (.inl upd_same), rfl, ?_⟩
      refine ⟨_, _, rfl, _, _, rfl, rfl, ?_⟩
      refine ⟨_, rfl, F0, rfl, .inl ⟨_, .inl p1'⟩, _, rfl, _, DGet.k (k := Sum.inr p.1) p1', ?_⟩
      rw [num_eq]
      refine ⟨_, rfl, _, rfl, _, _, rfl, rfl, .inr ⟨by omega, by omega⟩, _, _, rfl, rfl, ?_⟩
      refine ⟨_, rfl, _, rfl, F0, _, rfl, DPut.k (k := Sum.inr p.1) p1' ?_, ?_⟩
      · have := len_addT ((scl f l2).take i) l1
        rw [List.length_take, scl_len] at this
        rw [kv_len]
        omega
      · refine ⟨⟨_, _, rfl⟩, ?_, ?_, ?_⟩
        · rw [upd_same, putK_kv, addT_take (scl_get ep)]
        · intro b o z n
          rw [upd_ne (ne_of_none z hF), upd_ne (ne_of_none (p2 b o z n) ht)]
          exact p2 b o z n
        · rw [upd_ne n2F, upd_ne ndt]
          exact p3
    · rintro σ H' ⟨⟨v, u, rfl⟩, p1, p2, p3⟩
      rw [kv_len, List.take_of_length_le (by rw [scl_len]; exact Nat.le_refl _)] at p1
      refine ⟨p3, ?_⟩
      have base' : Same H (upd H' d2 (.dK (kv l2))) := fun b o e => by
        by_cases n : b = d2
        · rw [n, upd_same, ← h2, ← n, e]
        · rw [upd_ne n]
          exact p2 b o e n
      refine ⟨_, rfl, _, rfl, F0, c, _, rfl, hc, by rw [upd_ne n2F.symm]; exact p1, nd_addT _ _ hnd, ?_, fun H2 D s2 nD eD => q H2 D (base'.trans s2) (base'.free nD) eD⟩
      have := len_addT (scl f l2) l1
      rw [scl_len] at this
      omega
def spMult : Sp := fun vs H Q _ => ∃ (d1 d2 : Addr) (c : Int) (m1 k1 m2 k2 : Nat) (l1 l2 : Tb), vs = [.ref d1, .ref d2, .int c] ∧ 0 < c ∧ c ≤ 7 ∧ d1 ≠ d2 ∧ H d1 = some (.dK (kv l1)) ∧ H d2 = some (.dK (kv l2)) ∧ VT c m1 k1 l1 ∧ VT c m2 k2 l2 ∧ m1 ≤ 1000 ∧ m2 ≤ 1000 ∧ k1 * k2 ≤ 900000 ∧
  ∀ H' D, Same H H' → H D = none → H' D = some (.dK (kv (tidyM c (multT l1 l2)))) → Q (.ref D) H'
abbrev nMult : List Str := ["one", "other", "clock", "found", "front", "number", "back", "amount"]
theorem sc_mult : FnScope nMult ["one", "other", "clock"] (defScope s_multiplied) := ⟨rfl, rfl, rfl, by decide +kernel, rfl, by decide +kernel, by decide +kernel⟩
theorem ok_multiplied (T : Top K mg) : Ok P w K mg base 2 "multiplied" ["one", "other", "clock"] spMult := by
  obtain ⟨fd, F⟩ := fn_multiplied T
  refine ⟨⟨fd, ?_, F.bindsN fun _ _ _ _ _ _ us hl => match us, hl with | [_, _, _], _ => rfl⟩, g_multiplied T, F.kp⟩
  refine F.ok sc_mult (fun vs H Q E h => ?_) (fun cdv A outer s H vs Q E hr h => ?_)
  · obtain ⟨d1, d2, c, m1, k1, m2, k2, l1, l2, rfl, _⟩ := h
    rfl
  · obtain ⟨d1, d2, c, m1, k1, m2, k2, l1, l2, rfl, hc, hc7, n12, h1, h2, v1, v2, hm1, hm2, hk, q⟩ := h
    have nd := sc_mult.nd
    have hu := hu_of hr
    have hs : sizeLine = 16777216 := sizeLine_eq
    have hkk : l1.length * l2.length ≤ 900000 := Nat.le_trans (Nat.mul_le_mul v1.ln v2.ln) hk
    refine ⟨_, PSs.nox (pss_cons (ps_set (i := 3) nd rfl (Or.inl rfl) pe_dnewK)
      (pss_cons (ps_lock (ps_for PassesOwn.never rfl (pi_items (pv 0)) (pg_tup rfl (pgs_cons (pg_name (i := 4) nd rfl (Or.inl rfl)) (pgs_cons (pg_name (i := 5) nd rfl (Or.inl rfl)) pgs_nil)))
        (pss_one (ps_lock (ps_for PassesOwn.never rfl (pi_items (pv 1)) (pg_tup rfl (pgs_cons (pg_name (i := 6) nd rfl (Or.inl rfl)) (pgs_cons (pg_name (i := 7) nd rfl (Or.inl rfl)) pgs_nil)))
          (pss_one (ps_dput hu (pv 3) (pe_op op_add_str (pv 4) (pv 6)) (pe_op op_add (pe_dget2 hu (pv 3) (pe_op op_add_str (pv 4) (pv 6)) pe_int ⟨rfl, rfl, rfl, rfl⟩) (pe_op op_mul (pv 5) (pv 7))) rfl)))))))
      (pss_one (ps_ret (pc (ok_tidied T) hr (pa_cons (pv 3) (pa_cons (pv 2) pa_nil))))))), ?_⟩
    refine fun F0 hF => ?_
    have n1F : d1 ≠ F0 := ne_of_none h1 hF
    have n2F : d2 ≠ F0 := ne_of_none h2 hF
    refine ⟨d1, .dK (kv l1), by rw [upd_ne n1F]; exact h1, trivial, fun od => ?_⟩
    refine ⟨_, rfl, d1, od, kv l1, rfl, upd_same, ?_⟩
    refine for_it walk_items (fun i σ H' => (∃ v u v2 u2, σ = [some (.ref d1), some (.ref d2), some (.int c), some (.ref F0), v, u, v2, u2]) ∧ H' F0 = some (.dK (kv (addT (prs (l1.take i) l2) []))) ∧ But d1 H H' ∧ H' d1 = some (.frz od (.dK (kv l1))))
      ⟨⟨none, none, none, none, rfl⟩, ?_, ?_, upd_same⟩ (fun i σ H' _ hP => hP.2.2.2) ?_ ?_
    · rw [upd_ne n1F.symm, upd_same]
      rfl
    · intro b o e n
      rw [upd_ne n, upd_ne (ne_of_none e hF)]
      exact e
    · rintro i x σ H1 H2 hi ⟨⟨v, u, v2', u2', rfl⟩, p1, p2, p3⟩ ⟨t, k, v', rfl, ht, rfl, e1, e2⟩
      obtain ⟨p, ep, rfl, rfl⟩ := kv_item e1 e2
      have hp : p ∈ l1 := List.mem_of_getElem? ep
      have hil : i < l1.length := (List.getElem?_eq_some_iff.mp ep).1
      have nFt : F0 ≠ t := ne_of_none p1 ht
      have ndt : d1 ≠ t := ne_of_none p3 ht
      have x1 : (upd H1 t (.tup [.str p.1, .int p.2])) F0 = some (.dK (kv (addT (prs (l1.take i) l2) []))) := by
        rw [upd_ne nFt]
        exact p1
      have x2 : But d1 H (upd H1 t (.tup [.str p.1, .int p.2])) := fun b o z n => by
        rw [upd_ne (ne_of_none (p2 b o z n) ht)]
        exact p2 b o z n
      have x3 : (upd H1 t (.tup [.str p.1, .int p.2])) d1 = some (.frz od (.dK (kv l1))) := by
        rw [upd_ne ndt]
        exact p3
      refine ⟨t, _, rfl, .inl (.inl upd_same), rfl, ?_⟩
      refine ⟨_, _, rfl, _, _, rfl, rfl, ?_⟩
      generalize upd H1 t (.tup [.str p.1, .int p.2]) = H1 at x1 x2 x3 ⊢
      clear p1 p2 p3 nFt ndt ht
      have hplen : (l1.take i).length = i := by rw [List.length_take]; omega
      refine ⟨d2, .dK (kv l2), x2 _ _ h2 n12.symm, trivial, fun od2 => ?_⟩
      refine ⟨_, rfl, d2, od2, kv l2, rfl, upd_same, ?_⟩
      refine for_it walk_items (fun j σ H' => (∃ v u, σ = [some (.ref d1), some (.ref d2), some (.int c), some (.ref F0), some (.str p.1), some (.int p.2), v, u]) ∧ H' F0 = some (.dK (kv (addT ((fwd p l2).take j) (addT (prs (l1.take i) l2) [])))) ∧
          (∀ b o, H b = some o → b ≠ d1 → b ≠ d2 → H' b = some o) ∧ H' d1 = some (.frz od (.dK (kv l1))) ∧ H' d2 = some (.frz od2 (.dK (kv l2))))
        ⟨⟨_, _, rfl⟩, ?_, ?_, ?_, upd_same⟩ (fun i σ H' _ hP => hP.2.2.2.2) ?_ ?_
      · rw [upd_ne n2F.symm]
        exact x1
      · intro b o z na nb
        rw [upd_ne nb]
        exact x2 b o z na
      · rw [upd_ne n12]
        exact x3
      · rintro j x σ H3 H4 hj ⟨⟨v, u, rfl⟩, r1, r2, r3, r4⟩ ⟨t2, k, v', rfl, ht2, rfl, e1, e2⟩
        obtain ⟨q0, eq0, rfl, rfl⟩ := kv_item e1 e2
        have hq : q0 ∈ l2 := List.mem_of_getElem? eq0
        have hjl : j < l2.length := (List.getElem?_eq_some_iff.mp eq0).1
        have hn1 := v1.nu p hp
        have hn2 := v2.nu q0 hq
        have hw1 := v1.wd p hp
        have hw2 := v2.wd q0 hq
        have nFt : F0 ≠ t2 := ne_of_none r1 ht2
        have y1 : (upd H3 t2 (.tup [.str q0.1, .int q0.2])) F0 = some (.dK (kv (addT ((fwd p l2).take j) (addT (prs (l1.take i) l2) [])))) := by
          rw [upd_ne nFt]
          exact r1
        have hwl : p.1.length + q0.1.length ≤ sizeLine := by have := hw1.2; have := hw2.2; omega
        refine ⟨t2, _, rfl, .inl (.inl upd_same), rfl, ?_⟩
        refine ⟨_, _, rfl, _, _, rfl, rfl, ?_⟩
        refine ⟨_, rfl, F0, rfl, .inl ⟨_, .inl y1⟩, _, rfl, _, rfl, _, _, rfl, rfl, hwl, _, DGet.k (k := Sum.inr (p.1 ++ q0.1)) y1, ?_⟩
        rw [num_eq]
        refine ⟨_, rfl, _, rfl, _, _, rfl, rfl, .inr ⟨by omega, by omega⟩, _, _, rfl, rfl, ?_⟩
        refine ⟨_, rfl, _, rfl, _, rfl, _, _, rfl, rfl, hwl, F0, _, rfl, DPut.k (k := Sum.inr (p.1 ++ q0.1)) y1 ?_, ?_⟩
        · have b1 := len_addT ((fwd p l2).take j) (addT (prs (l1.take i) l2) [])
          have b2 := len_addT (prs (l1.take i) l2) []
          rw [prs_len, hplen] at b2
          rw [List.length_take, fwd_len] at b1
          have b3 : (i + 1) * l2.length ≤ l1.length * l2.length := Nat.mul_le_mul_right _ hil
          rw [Nat.add_mul] at b3
          have b4 : ([] : Tb).length = 0 := rfl
          rw [kv_len]
          omega
        · refine ⟨⟨_, _, rfl⟩, ?_, ?_, ?_, ?_⟩
          · rw [upd_same, putK_kv, addT_take (fwd_get eq0)]
          · intro b o z na nb
            rw [upd_ne (ne_of_none z hF), upd_ne (ne_of_none (r2 b o z na nb) ht2)]
            exact r2 b o z na nb
          · rw [upd_ne n1F, upd_ne (ne_of_none r3 ht2)]
            exact r3
          · rw [upd_ne n2F, upd_ne (ne_of_none r4 ht2)]
            exact r4
      · rintro σ H3 ⟨⟨v, u, rfl⟩, r1, r2, r3, r4⟩
        rw [kv_len, List.take_of_length_le (by rw [fwd_len]; exact Nat.le_refl _)] at r1
        refine ⟨r4, ⟨_, _, _, _, rfl⟩, ?_, ?_, ?_⟩
        · rw [upd_ne n2F.symm, prs_take ep, addT_app]
          exact r1
        · intro b o z na
          by_cases nb : b = d2
          · rw [nb, upd_same, ← h2, ← nb, z]
          · rw [upd_ne nb]
            exact r2 b o z na nb
        · rw [upd_ne n12]
          exact r3
    · rintro σ H' ⟨⟨v, u, v2', u2', rfl⟩, p1, p2, p3⟩
      rw [kv_len, List.take_length] at p1
      refine ⟨p3, ?_⟩
      have base' : Same H (upd H' d1 (.dK (kv l1))) := fun b o e => by
        by_cases n : b = d1
        · rw [n, upd_same, ← h1, ← n, e]
        · rw [upd_ne n]
          exact p2 b o e n
      refine ⟨_, rfl, _, rfl, F0, c, _, rfl, hc, by rw [upd_ne n1F.symm]; exact p1, nd_addT _ _ (show Nd [] from List.nodup_nil), ?_, fun H2 D s2 nD eD => q H2 D (base'.trans s2) (base'.free nD) eD⟩
      have := len_addT (prs l1 l2) []
      rw [prs_len] at this
      have b4 : ([] : Tb).length = 0 := rfl
      omega
end
end Fp

set_option Elab.async false
set_option linter.all false
set_option maxRecDepth 100000
set_option maxHeartbeats 4000000
namespace L2
open PySem PySem.Spec PyProof.Rows
/-- a walk over a list or a tuple, told by the heap -/
def iSeqV (K : PySem.W.Frag) (tl : TE) : TI := fun σ H R => tl σ H fun x H1 => ∃ a, x = .ref a ∧ (((∃ xs, SqL K H1 a xs) ∧ R (Itl K a) H1) ∨ ((∃ xs, SqT K H1 a xs) ∧ R (Itt K a) H1))
theorem pi_seqV {X : Cx} {tg : Expr} {l : Expr} {tl : TE} (he : PE X l tl) : PI X tg l (iSeqV X.K tl) := by
  constructor
  intro pins s σ H R I h
  refine thn (he.run pins s σ H _ I h) fun v t ⟨x, G, J, rr, a, e, hh⟩ => ?_
  subst e
  cases rr
  have fp : ∀ b ∈ [t.heap.objs.size], FpOk X pins G b := fun b hb => by
    rw [List.mem_singleton.mp hb]
    exact J.fpOk (Nat.le_refl _) (J.hok.fresh (Nat.le_refl _))
  have go : ∀ o, Inv X pins σ G { t with heap := t.heap.push o } := fun o => J.kept (t' := t.toks) fun b u z => Heap.get?_push_of_some _ z
  rcases hh with ⟨⟨xs, hq⟩, q⟩ | ⟨⟨xs, hq⟩, q⟩
  · obtain ⟨its, _, pl, _⟩ := J.list hq
    exact wpAny_pyIter_list pl.isList ⟨t.heap.objs.size, [t.heap.objs.size], _, _, G, rfl, go _, turn_list a _, ⟨_, Heap.get?_push_size _ rfl, rfl, rfl⟩, fp, q⟩
  · obtain ⟨its, _, pl, _⟩ := J.tuple hq
    exact wpAny_pyIter_tuple (show t.heap.IsTuple a its.toArray from pl) ⟨t.heap.objs.size, [t.heap.objs.size], _, _, G, rfl, go _, turn_tuple a _, ⟨_, Heap.get?_push_size _ rfl, rfl, rfl⟩, fp, q⟩
end L2
namespace Fp
open PySem PySem.Spec PyProof.Rows L2
theorem merge_kv' : ∀ (l a : Tb), Nd l → (∀ p ∈ l, has a p.1 = false) → mergeK (kv a) (kv l) = kv (a ++ l)
  | [], a, _, _ => by
    rw [List.append_nil]
    rfl
  | p :: r, a, h, hd => by
    have h' : (p.1 :: r.map (·.1)).Nodup := h
    obtain ⟨h1, h2⟩ := List.nodup_cons.mp h'
    have e : mergeK (kv a) (kv (p :: r)) = mergeK (putK (kv a) (Sum.inr p.1 : Key) (.int p.2)) (kv r) := rfl
    have e2 : putT a p.1 p.2 = a ++ [p] := by
      unfold putT
      rw [hd p List.mem_cons_self, if_neg Bool.false_ne_true]
    rw [e, putK_kv, e2, merge_kv' r (a ++ [p]) h2 fun q hq => ?_]
    · rw [List.append_assoc]
      rfl
    · unfold has
      rw [List.any_append]
      have h3 := hd q (List.mem_cons_of_mem _ hq)
      unfold has at h3
      rw [h3]
      have : p.1 ≠ q.1 := fun z => h1 (z ▸ List.mem_map.mpr ⟨q, hq, rfl⟩)
      simp [this]
theorem merge_kv {l : Tb} (h : Nd l) : mergeK [] (kv l) = kv l := merge_kv' l [] h fun _ _ => rfl
/-! ### defs that may raise -/
structure OkX (P : Program) (w : World) (K : PySem.W.Frag) (mg : Str → Option Value) (base : Heap) (k : Nat) (x : Str) (ps : List Str) (sp : Sp) : Prop where
  ex : ∃ fd, FnOk P w K mg base (L2.CX P w) k (He.ga K x) fd ps sp ∧ Binds K fd ps []
  g : mg x = some (.ref (He.ga K x))
  kp : PySem.W.keepIn K (.ref (He.ga K x)) = true
/-- called where it doesn't raise -/
theorem pcL {X : Cx} {x : Str} {p pos : Pos} {e : Expr} {es : List Expr} {t : TA} {k : Nat} {ps : List Str} {sp : Sp} (G : OkX X.prog X.w X.K X.mg X.base k x ps sp) (hr : Room k X.A) (ha : PA X (e :: es) t) (hg : Gl X x := by rfl) (hdb : (x == ("__debug__" : Str)) = false := by decide)
    (he : starEach (e :: es) X.env = (false, eval e X.env) :: starEach es X.env := by rfl) (hpl : (backTo pos (starEach es X.env)).any (·.1) = false := by rfl) : PE X (.Call (.Name x p) (e :: es) [] pos) (tCall sp [] E0 t) := by
  obtain ⟨fd, F, b⟩ := G.ex
  exact pe_call F hr hg G.g G.kp b .nil passL ha hdb he hpl
/-- called where it may -/
theorem pcX {X : Cx} {W : WX} (tk : Takes X W) {x : Str} {p pos : Pos} {e : Expr} {es : List Expr} {t : TA} {k : Nat} {ps : List Str} {sp : Sp} (G : OkX X.prog X.w X.K X.mg X.base k x ps sp) (hr : Room k X.A) (ha : PA X (e :: es) t) (hg : Gl X x := by rfl) (hdb : (x == ("__debug__" : Str)) = false := by decide)
    (he : starEach (e :: es) X.env = (false, eval e X.env) :: starEach es X.env := by rfl) (hpl : (backTo pos (starEach es X.env)).any (·.1) = false := by rfl) : PE X (.Call (.Name x p) (e :: es) [] pos) (tCallS sp (fun σ => WE W σ) t) := by
  obtain ⟨fd, F, b⟩ := G.ex
  exact pe_callS F hr hg G.g G.kp b (fun σ => passAt tk σ) ha hdb he hpl
/-! ### bags: what callers know -/
theorem ck_range {c : Int} (h : isCk c) : 2 ≤ c ∧ c ≤ 7 := by
  rcases h with rfl | rfl | rfl | rfl <;> constructor <;> decide
theorem Lk.of_num {c : Int} {l m : Tb} (hl : Nd l) (hm : Nd m) (h : ∀ x, num l x = num m x) : Lk c l m := fun x => by rw [tot_num hl, tot_num hm, h x]
theorem lk_canon {c : Int} {l : Tb} (h : Nd l) : Lk c (canon l) l := Lk.of_num (canon_nd h) h (canon_num h)
theorem lk_tidy {c : Int} {l : Tb} (h : Nd l) : Lk c (tidyM c l) l := fun x => by rw [tot_num (tidy_nd h), tot_num h, num_tidy h, Int.emod_emod_of_dvd _ (Int.dvd_refl c)]
theorem lk_addT {c : Int} {es a : Tb} (h : Nd a) : Lk c (addT es a) (a ++ es) := fun x => by rw [tot_num (nd_addT _ _ h), num_addT, tot_app, tot_num h]
theorem lk_same {c : Int} {m k m' k' : Nat} {l l' : Tb} (hc : 0 < c) (h : VT c m k l) (h' : VT c m' k' l') (e : Lk c l l') : canon l = canon l' :=
  vt_ext h h' fun x => by
    have := e x
    rw [tot_num h.nd, tot_num h'.nd, num_mod hc h, num_mod hc h'] at this
    exact this
theorem lk_diff {c : Int} {m k m' k' : Nat} {l l' : Tb} (hc : 0 < c) (h : VT c m k l) (h' : VT c m' k' l') (e : canon l = canon l') : Lk c l l' := (lk_canon h.nd).symm.trans (e ▸ lk_canon h'.nd)
theorem lk_plus {c f : Int} {m k m' k' : Nat} {l1 l2 : Tb} (hc : 0 < c) (h1 : VT c m k l1) (h2 : VT c m k' l2) : Lk c (plusM c l1 l2 f) (l1 ++ scl f l2) := fun x => by
  rw [tot_num (vt_plusM hc h1 h2 f).nd, num_plusM (m' := 0) hc h1 h2, tot_app, tot_scl, tot_num h1.nd, tot_num h2.nd, Int.emod_emod_of_dvd _ (Int.dvd_refl c)]
theorem lk_prod {c : Int} {m1 k1 m2 k2 : Nat} {l1 l2 : Tb} (hc : 0 < c) (h1 : VT c m1 k1 l1) (h2 : VT c m2 k2 l2) : Lk c (prodM c l1 l2) (prs l1 l2) := fun x => by
  rw [tot_num (vt_prodM hc h1 h2).nd, num_prodM hc h1 h2, Int.emod_emod_of_dvd _ (Int.dvd_refl c)]
/-- a Bag of a table -/
def Bg (K : PySem.W.Frag) (H : Hp) (b : Addr) (c : Int) (m k : Nat) (l : Tb) : Prop := BagAt K H b c (canon l) ∧ VT c m k l
theorem Bg.same {K : PySem.W.Frag} {H H' : Hp} {b : Addr} {c : Int} {m k : Nat} {l : Tb} (h : Bg K H b c m k l) (s : Same H H') : Bg K H' b c m k l := ⟨h.1.same s, h.2⟩
theorem Bg.mono {K : PySem.W.Frag} {H : Hp} {b : Addr} {c : Int} {m k m' k' : Nat} {l : Tb} (h : Bg K H b c m k l) (h1 : m ≤ m') (h2 : k ≤ k') : Bg K H b c m' k' l := ⟨h.1, h.2.mono h1 h2⟩
theorem putF_flds (c : Int) (t t' : Addr) : putF "words" (.ref t') (flds c t) = flds c t' := by
  rw [flds_eq, flds_eq]
  show (if ("clock" : Str) = "words" then (("words" : Str), V.ref t') :: [("words", V.ref t)] else (("clock" : Str), V.int c) :: putF "words" (.ref t') [("words", V.ref t)]) = _
  rw [if_neg kwc]
  show (("clock" : Str), V.int c) :: (if ("words" : Str) = "words" then [(("words" : Str), V.ref t')] else _) = _
  rw [if_pos rfl]
section
variable {P : Program} {w : World} {K : PySem.W.Frag} {mg : Str → Option Value} {base : Heap}
def spTable (K : PySem.W.Frag) : Sp := fun vs H Q _ => ∃ (a : Addr) (c : Int) (L : Tb), vs = [.ref a] ∧ BagAt K H a c L ∧ Nd L ∧ ∀ D, H D = none → Q (.ref D) (upd H D (.dK (kv L)))
theorem pairs_kv {K : PySem.W.Frag} {H : Hp} {ps : List Addr} {L : Tb} (h : Paired (fun p (q : Str × Int) => H p = some (.tup [.str q.1, .int q.2])) ps L) : Paired (fun p (x : Key × V) => SqT K H p [kV x.1, x.2]) ps (kv L) := by
  induction h with
  | nil => exact .nil
  | cons e _ ih => exact .cons (.inl (.inl e)) ih
abbrev nTable : List Str := ["bag"]
theorem sc_table_of : FnScope nTable nTable (defScope s_table_of) := ⟨rfl, rfl, rfl, by decide +kernel, rfl, by decide +kernel, by decide +kernel⟩
theorem ok_table_of (T : Top K mg) : Ok P w K mg base 1 "table_of" nTable (spTable K) := by
  obtain ⟨fd, F⟩ := fn_table_of T
  refine ⟨⟨fd, ?_, F.bindsN fun _ _ _ _ _ _ us hl => match us, hl with | [_], _ => rfl⟩, g_table_of T, F.kp⟩
  refine F.ok sc_table_of (fun vs H Q E h => ?_) (fun cdv A outer s H vs Q E hr h => ?_)
  · obtain ⟨a, c, L, rfl, _⟩ := h
    rfl
  · obtain ⟨a, c, L, rfl, ⟨dx, t, ea, ps, o, hps, hpt, hpr⟩, hnd, q⟩ := h
    refine ⟨_, PSs.nox (pss_one (ps_ret (pe_callTy (call_dictPT rfl) (by rfl) (f_dict T) (by decide +kernel) (pa_cons (pe_fld (pv 0) rfl) pa_nil)))), ?_⟩
    refine ⟨_, rfl, a, _, dx, _, _, rfl, ea, cls_Bag T, na_Bag_words T, flds_words _ _, ?_⟩
    refine ⟨t, o, ps, kv L, rfl, hps, hpt, pairs_kv hpr, fun D nD => ?_⟩
    rw [merge_kv hnd]
    exact q D nD
def spBagOf (K : PySem.W.Frag) : Sp := fun vs H Q _ => ∃ (c : Int) (d : Addr) (l : Tb), vs = [.int c, .ref d] ∧ isCk c ∧ H d = some (.dK (kv l)) ∧ Nd l ∧ (∀ p ∈ l, p.1.length ≤ 1000000) ∧ l.length ≤ 1000000 ∧
  ∀ H' b, Same H H' → H b = none → BagAt K H' b c (canon (tidyM c l)) → Q (.ref b) H'
abbrev nBagOf : List Str := ["clock", "table", "bag"]
theorem sc_bag_of : FnScope nBagOf ["clock", "table"] (defScope s_bag_of) := ⟨rfl, rfl, rfl, by decide +kernel, rfl, by decide +kernel, by decide +kernel⟩
theorem made_dict {H : Hp} {d x dx : Addr} {o u v : HO} (hd : H d = some o) (hx : H x = none) (hdx : H dx = none) : (upd (upd H dx u) x v) d = some o := by
  rw [upd_ne (ne_of_none hd hx), upd_ne (ne_of_none hd hdx)]
  exact hd
theorem made_same {H H' : Hp} {x dx : Addr} {u v : HO} (k : But x (upd (upd H dx u) x v) H') (hx : H x = none) (hdx : H dx = none) : Same H H' := fun b o e => by
  refine k b o ?_ (ne_of_none e hx)
  rw [upd_ne (ne_of_none e hx), upd_ne (ne_of_none e hdx)]
  exact e
theorem ok_bag_of (T : Top K mg) : Ok P w K mg base 7 "bag_of" ["clock", "table"] (spBagOf K) := by
  obtain ⟨fd, F⟩ := fn_bag_of T
  refine ⟨⟨fd, ?_, F.bindsN fun _ _ _ _ _ _ us hl => match us, hl with | [_, _], _ => rfl⟩, g_bag_of T, F.kp⟩
  refine F.ok sc_bag_of (fun vs H Q E h => ?_) (fun cdv A outer s H vs Q E hr h => ?_)
  · obtain ⟨c, d, l, rfl, _⟩ := h
    rfl
  · obtain ⟨c, d, l, rfl, hc, hd, hnd, hwl, hll, q⟩ := h
    have nd := sc_bag_of.nd
    have hu := hu_of hr
    have hr1 : Room 1 _ := hr.mono (by decide)
    have hr2 : Room 2 _ := hr.mono (by decide)
    obtain ⟨hc2, hc7⟩ := ck_range hc
    refine ⟨_, PSs.nox (pss_cons (ps_set (i := 2) nd rfl (Or.inl rfl) (pbag T hr (pa_cons (pv 0) (pa_cons pe_dnewK pa_nil))))
      (pss_cons (ps_fld (pv 2) (pc (ok_pairs_of T) hr2 (pa_cons (pc (ok_tidied T) hr1 (pa_cons (pv 1) (pa_cons (pv 0) pa_nil))) pa_nil)) rfl)
      (pss_one (ps_ret (pv 2))))), ?_⟩
    refine ⟨_, rfl, fun D hD b dx hb hdx ne => ?_⟩
    refine ⟨b, D, dx, c, [], rfl, upd_same, hc, made_dict upd_same hb hdx, (vt_nil c 12).mono (Nat.le_refl _) (by decide), fun H1 k1 hb1 => ⟨rfl, ?_⟩⟩
    have s1 : Same H H1 := (same_upd hD).trans (made_same k1 hb hdx)
    have hb0 : H b = none := (same_upd hD).free hb
    refine ⟨_, rfl, _, rfl, d, c, l, rfl, by omega, s1 _ _ hd, hnd, hll, fun H2 D2 s2 nD2 eD2 => ?_⟩
    refine ⟨D2, tidyM c l, rfl, eD2, tidy_nd hnd, fun p hp => ?_, Nat.le_trans tidy_len hll, fun H3 t s3 nt wt => ?_⟩
    · obtain ⟨p', h1, rfl, _⟩ := tidy_keys hp
      exact hwl p' h1
    obtain ⟨dx', t0, eb, w0⟩ := (hb1.same s2).same s3
    refine ⟨_, rfl, b, _, dx', _, rfl, eb, cls_Bag T, na_Bag_words T, by rw [flds_eq]; show 2 < 1000; decide, ?_⟩
    refine ⟨_, rfl, q _ b (fun y o e => ?_) hb0 ⟨dx', t, ?_, ?_⟩⟩
    · rw [upd_ne (ne_of_none e hb0)]
      exact s3 _ _ (s2 _ _ (s1 _ _ e))
    · rw [upd_same, putF_flds]
      rfl
    · refine wt.but (a := b) but_upd (fun e => ?_) fun xs z => ?_
      · obtain ⟨ps, o, h1, _⟩ := wt
        rw [e, eb] at h1
        cases h1
      · rw [eb] at z
        cases z
/-! ### unlike clocks -/
def spClocks (K : PySem.W.Frag) : Sp := fun vs H Q E => ∃ (a b : Addr) (c c' : Int) (L M : Tb), vs = [.ref a, .ref b] ∧ BagAt K H a c L ∧ BagAt K H b c' M ∧ (c = c' → Q .non H) ∧ (c ≠ c' → E (.ref (He.ga K "UnlikeClocks")) none H)
abbrev nClocks : List Str := ["one", "other"]
theorem sc_check_clocks : FnScope nClocks nClocks (defScope s_check_clocks) := ⟨rfl, rfl, rfl, by decide +kernel, rfl, by decide +kernel, by decide +kernel⟩
theorem ok_check_clocks (T : Top K mg) : OkX P w K mg base 1 "check_clocks" nClocks (spClocks K) := by
  obtain ⟨fd, F⟩ := fn_check_clocks T
  obtain ⟨x1, x2, x3, x4⟩ := e_UnlikeClocks T
  refine ⟨⟨fd, ?_, F.bindsN fun _ _ _ _ _ _ us hl => match us, hl with | [_, _], _ => rfl⟩, g_check_clocks T, F.kp⟩
  refine F.ok sc_check_clocks (fun vs H Q E h => ?_) (fun cdv A outer s H vs Q E hr h => ?_)
  · obtain ⟨a, b, c, c', L, M, rfl, _⟩ := h
    rfl
  · obtain ⟨a, b, c, c', L, M, rfl, ⟨dx, t, ea, _⟩, ⟨dy, t', eb, _⟩, q1, q2⟩ := h
    refine ⟨_, pss_one (ps_if (pt_cmpR op_ne (pe_fld (pv 0) rfl) (pe_fld (pv 1) rfl) (nomark _)) (pss_one (ps_raise rfl (takes_of rfl rfl rfl rfl) (pmk_own0 PySem.F.excBase_ValueError x1 (g_UnlikeClocks T) x2 (raises_own x3 x4) rfl))) pss_nil), ?_⟩
    refine ⟨_, rfl, a, _, dx, _, _, rfl, ea, cls_Bag T, na_Bag_clock T, flds_clock _ _, _, rfl, b, _, dy, _, _, rfl, eb, cls_Bag T, na_Bag_clock T, flds_clock _ _, rfl, _, rfl, ?_⟩
    refine ite2 (fun hne => ?_) (fun hne => ?_)
    · refine q2 fun z => ?_
      rw [z] at hne
      simp at hne
    · refine q1 ?_
      simpa using hne
end
end Fp

set_option Elab.async false
set_option linter.all false
set_option maxRecDepth 100000
set_option maxHeartbeats 4000000
namespace Fp
open PySem PySem.Spec PyProof.Rows L2
theorem scl_one (l : Tb) : scl 1 l = l := by
  unfold scl
  have : (fun p : Str × Int => ((p.1, 1 * p.2) : Str × Int)) = id := by
    funext p
    show ((p.1, 1 * p.2) : Str × Int) = p
    rw [Int.one_mul]
  rw [this, List.map_id]
theorem canon_len (l : Tb) : (canon l).length = l.length := by
  unfold canon
  rw [List.length_map, ordW_len]
/-- one table laid to another one, tidied -/
theorem vt_sum {c f : Int} {m k m' k' : Nat} {l l' : Tb} (hc : 0 < c) (h : VT c m k l) (h' : VT c m' k' l') : VT c (max m m') (k + k') (tidyM c (addT (scl f l') l)) ∧ Lk c (tidyM c (addT (scl f l') l)) (l ++ scl f l') := by
  have n1 := nd_addT (scl f l') l h.nd
  refine ⟨(vt_tidy (m := max m m') hc n1 fun p hp => ?_).mono (Nat.le_refl _) ?_, (lk_tidy n1).trans (lk_addT h.nd)⟩
  · rcases key_addT _ _ p hp with ⟨q, h1, h2⟩ | ⟨q, h1, h2⟩
    · rw [← h2]
      have := h.wd q h1
      exact ⟨this.1, by omega⟩
    · unfold scl at h1
      obtain ⟨r, h3, rfl⟩ := List.mem_map.mp h1
      rw [← h2]
      have := h'.wd r h3
      exact ⟨this.1, by show r.1.length ≤ _; omega⟩
  · have := len_addT (scl f l') l
    rw [scl_len] at this
    have := h.ln
    have := h'.ln
    omega
/-- one table behind another one, tidied -/
theorem vt_mul {c : Int} {m k m' k' : Nat} {l l' : Tb} (hc : 0 < c) (h : VT c m k l) (h' : VT c m' k' l') : VT c (m + m') (k * k') (tidyM c (multT l l')) ∧ Lk c (tidyM c (multT l l')) (prs l l') := by
  have n1 : Nd (multT l l') := nd_addT _ _ (show Nd [] from List.nodup_nil)
  have e : Lk c (multT l l') (prs l l') := lk_addT (a := []) (show Nd [] from List.nodup_nil)
  refine ⟨(vt_tidy (m := m + m') hc n1 fun p hp => ?_).mono (Nat.le_refl _) ?_, (lk_tidy n1).trans e⟩
  · rcases key_addT _ _ p hp with ⟨q, h1, h2⟩ | ⟨q, h1, h2⟩
    · cases h1
    · unfold prs at h1
      obtain ⟨r, h3, h4⟩ := List.mem_flatMap.mp h1
      obtain ⟨s, h5, rfl⟩ := List.mem_map.mp h4
      rw [← h2]
      have a1 := h.wd r h3
      have a2 := h'.wd s h5
      refine ⟨xyz_app a1.1 a2.1, ?_⟩
      show (r.1 ++ s.1).length ≤ _
      rw [len_app]
      omega
  · have := len_addT (prs l l') []
    rw [prs_len] at this
    have b4 : ([] : Tb).length = 0 := rfl
    have b5 : l.length * l'.length ≤ k * k' := Nat.mul_le_mul h.ln h'.ln
    unfold multT
    omega
theorem vt_again {c : Int} {m k : Nat} {l : Tb} (hc : 0 < c) (h : VT c m k l) : VT c m k (tidyM c l) ∧ Lk c (tidyM c l) l :=
  ⟨(vt_tidy hc h.nd h.wd).mono (Nat.le_refl _) h.ln, lk_tidy h.nd⟩
section
variable {P : Program} {w : World} {K : PySem.W.Frag} {mg : Str → Option Value} {base : Heap}
def spTog (K : PySem.W.Frag) : Sp := fun vs H Q E => ∃ (a b : Addr) (c c' : Int) (m k m' k' : Nat) (l l' : Tb), vs = [.ref a, .ref b] ∧ Bg K H a c m k l ∧ Bg K H b c' m' k' l' ∧ isCk c ∧ m ≤ 1000 ∧ m' ≤ 1000 ∧ k + k' ≤ 400000 ∧
  (c = c' → ∀ H' r t, Same H H' → H r = none → Bg K H' r c (max m m') (k + k') t → Lk c t (l ++ l') → Q (.ref r) H') ∧ (c ≠ c' → E (.ref (He.ga K "UnlikeClocks")) none H)
abbrev nTog : List Str := ["one", "other"]
def spBeh (K : PySem.W.Frag) : Sp := fun vs H Q E => ∃ (a b : Addr) (c c' : Int) (m k m' k' : Nat) (l l' : Tb), vs = [.ref a, .ref b] ∧ Bg K H a c m k l ∧ Bg K H b c' m' k' l' ∧ isCk c ∧ m ≤ 1000 ∧ m' ≤ 1000 ∧ k * k' ≤ 900000 ∧
  (c = c' → ∀ H' r t, Same H H' → H r = none → Bg K H' r c (m + m') (k * k') t → Lk c t (prs l l') → Q (.ref r) H') ∧ (c ≠ c' → E (.ref (He.ga K "UnlikeClocks")) none H)
theorem sc_behind : FnScope nTog nTog (defScope s_behind) := ⟨rfl, rfl, rfl, by decide +kernel, rfl, by decide +kernel, by decide +kernel⟩
theorem ok_behind (T : Top K mg) : OkX P w K mg base 8 "behind" nTog (spBeh K) := by
  obtain ⟨fd, F⟩ := fn_behind T
  refine ⟨⟨fd, ?_, F.bindsN fun _ _ _ _ _ _ us hl => match us, hl with | [_, _], _ => rfl⟩, g_behind T, F.kp⟩
  refine F.ok sc_behind (fun vs H Q E h => ?_) (fun cdv A outer s H vs Q E hr h => ?_)
  · obtain ⟨a, b, c, c', m, k, m', k', l, l', rfl, _⟩ := h
    rfl
  · obtain ⟨a, b, c, c', m, k, m', k', l, l', rfl, h1, h2, hck, hm, hm', hk, q1, q2⟩ := h
    have hr1 : Room 1 _ := hr.mono (by decide)
    have hr2 : Room 2 _ := hr.mono (by decide)
    obtain ⟨hc2, hc7⟩ := ck_range hck
    have hc0 : 0 < c := by omega
    obtain ⟨dx, t, ea, wa⟩ := id h1.1
    refine ⟨_, pss_cons (ps_expr (pcX (takes_of rfl rfl rfl rfl) (ok_check_clocks T) hr1 (pa_cons (pv 0) (pa_cons (pv 1) pa_nil))))
      (pss_one (ps_ret (pc (ok_bag_of T) hr (pa_cons (pe_fld (pv 0) rfl) (pa_cons (pc (ok_multiplied T) hr2 (pa_cons (pc (ok_table_of T) hr1 (pa_cons (pv 0) pa_nil)) (pa_cons (pc (ok_table_of T) hr1 (pa_cons (pv 1) pa_nil)) (pa_cons (pe_fld (pv 0) rfl) pa_nil)))) pa_nil))))), ?_⟩
    refine ⟨_, rfl, _, rfl, a, b, c, c', _, _, rfl, h1.1, h2.1, fun hcc => ?_, fun hcc => q2 hcc⟩
    subst hcc
    have v1 := vt_canon h1.2
    have v2 := vt_canon h2.2
    refine ⟨_, rfl, a, _, dx, _, _, rfl, ea, cls_Bag T, na_Bag_clock T, flds_clock _ _, ?_⟩
    refine ⟨_, rfl, a, c, canon l, rfl, h1.1, v1.nd, fun D1 hD1 => ?_⟩
    have s1 := same_upd (o := .dK (kv (canon l))) hD1
    refine ⟨_, rfl, b, c, canon l', rfl, h2.1.same s1, v2.nd, fun D2 hD2 => ?_⟩
    have s2 := same_upd (o := .dK (kv (canon l'))) hD2
    refine ⟨_, rfl, a, _, dx, _, _, rfl, s2 _ _ (s1 _ _ ea), cls_Bag T, na_Bag_clock T, flds_clock _ _, ?_⟩
    have n12 : D1 ≠ D2 := fun e => by
      rw [← e, upd_same] at hD2
      cases hD2
    refine ⟨D1, D2, c, m, k, m', k', canon l, canon l', rfl, hc0, hc7, n12, s2 _ _ upd_same, upd_same, v1, v2, hm, hm', hk, fun H3 D3 s3 n3 e3 => ?_⟩
    obtain ⟨w1, w2⟩ := vt_mul hc0 v1 v2
    obtain ⟨w3, w4⟩ := vt_again hc0 w1
    refine ⟨c, D3, _, rfl, hck, e3, w1.nd, fun p hp => Nat.le_trans (w1.wd p hp).2 (by omega), Nat.le_trans w1.ln (by omega), fun H4 r s4 n4 hb4 => ?_⟩
    have s := ((s1.trans s2).trans s3)
    exact q1 rfl H4 r _ (s.trans s4) (s.free n4) ⟨hb4, w3⟩ (w4.trans (w2.trans (Lk.prs (lk_canon h1.2.nd) (lk_canon h2.2.nd))))
/-! ### powers -/
def pwT (l : Tb) : Nat → Tb
  | 0 => [("", 1)]
  | n + 1 => prs (pwT l n) l
def spPow (K : PySem.W.Frag) : Sp := fun vs H Q _ => ∃ (a : Addr) (c : Int) (n m k : Nat) (l : Tb), vs = [.ref a, .int n] ∧ Bg K H a c m k l ∧ isCk c ∧ n ≤ 12 ∧ m ≤ 50 ∧ 1 ≤ k ∧ k ^ n ≤ 900000 ∧
  ∀ H' r t, Same H H' → H r = none → Bg K H' r c (m * n) (k ^ n) t → Lk c t (pwT l n) → Q (.ref r) H'
abbrev nPow : List Str := ["bag", "number", "table", "_"]
theorem vt_unit {c : Int} (hc : 2 ≤ c) (m : Nat) : VT c m 1 [("", 1)] := ⟨by show [(("" : Str))].Nodup; simp, fun q hq => by
    have : q = (("" : Str), (1 : Int)) := by simpa using hq
    subst this
    exact ⟨by decide, by show (1 : Int) < c; omega⟩, fun q hq => by
    have : q = (("" : Str), (1 : Int)) := by simpa using hq
    subst this
    exact ⟨by decide +kernel, Nat.zero_le _⟩, Nat.le_refl _⟩
end
end Fp

set_option Elab.async false
set_option linter.all false
set_option maxRecDepth 100000
set_option maxHeartbeats 4000000
namespace L2
open PySem PySem.Spec PyProof.Rows
/-- a walk over what is a list or a tuple: told for whichever it is -/
def iSeqW (K : PySem.W.Frag) (tl : TE) : TI := fun σ H R => tl σ H fun x H1 => ∃ a xs, x = .ref a ∧ (SqL K H1 a xs ∨ SqT K H1 a xs) ∧ ∀ J (G : Hp → Prop), Walk J xs.length G (YAt xs) → (∀ H', Same H1 H' → G H') → R J H1
theorem sqt_same {K : PySem.W.Frag} {H H' : Hp} {a : Addr} {xs : List V} (e : Same H H') (h : SqT K H a xs) : SqT K H' a xs := by
  rcases h with (h | ⟨o, h⟩) | h
  · exact .inl (.inl (e _ _ h))
  · exact .inl (.inr ⟨o, e _ _ h⟩)
  · exact .inr h
theorem pi_seqW {X : Cx} {tg : Expr} {l : Expr} {tl : TE} (he : PE X l tl) : PI X tg l (iSeqW X.K tl) := by
  constructor
  intro pins s σ H R I h
  refine thn (he.run pins s σ H _ I h) fun v t ⟨x, G, J, rr, a, xs, e, hh, q⟩ => ?_
  subst e
  cases rr
  have fp : ∀ b ∈ [t.heap.objs.size], FpOk X pins G b := fun b hb => by
    rw [List.mem_singleton.mp hb]
    exact J.fpOk (Nat.le_refl _) (J.hok.fresh (Nat.le_refl _))
  have go : ∀ o, Inv X pins σ G { t with heap := t.heap.push o } := fun o => J.kept (t' := t.toks) fun b u z => Heap.get?_push_of_some _ z
  rcases hh with hq | hq
  · obtain ⟨its, _, pl, _⟩ := J.list hq
    exact wpAny_pyIter_list pl.isList ⟨t.heap.objs.size, [t.heap.objs.size], _, _, G, rfl, go _, turn_list a _, ⟨_, Heap.get?_push_size _ rfl, rfl, rfl⟩, fp, q _ _ walk_list fun H' s => s.seq hq⟩
  · obtain ⟨its, _, pl, _⟩ := J.tuple hq
    exact wpAny_pyIter_tuple (show t.heap.IsTuple a its.toArray from pl) ⟨t.heap.objs.size, [t.heap.objs.size], _, _, G, rfl, go _, turn_tuple a _, ⟨_, Heap.get?_push_size _ rfl, rfl, rfl⟩, fp, q _ _ walk_tup fun H' s => sqt_same s hq⟩
end L2
namespace Fp
open PySem PySem.Spec PyProof.Rows L2
/-- a list or a tuple that is tracked -/
def SeqV (H : Hp) (a : Addr) (xs : List V) : Prop := H a = some (.lst xs) ∨ H a = some (.tup xs) ∨ ∃ o, H a = some (.frz o (.tup xs))
theorem SeqV.same {H H' : Hp} {a : Addr} {xs : List V} (h : SeqV H a xs) (s : Same H H') : SeqV H' a xs := by
  rcases h with h | h | ⟨o, h⟩
  · exact .inl (s _ _ h)
  · exact .inr (.inl (s _ _ h))
  · exact .inr (.inr ⟨o, s _ _ h⟩)
theorem SeqV.sq {K : PySem.W.Frag} {H : Hp} {a : Addr} {xs : List V} (h : SeqV H a xs) : SqL K H a xs ∨ SqT K H a xs := by
  rcases h with h | h | ⟨o, h⟩
  · exact .inl (.inl (.inl h))
  · exact .inr (.inl (.inl h))
  · exact .inr (.inl (.inr ⟨o, h⟩))
theorem SeqV.ty {K : PySem.W.Frag} {H : Hp} {a : Addr} {xs : List V} (h : SeqV H a xs) : ∃ t, TyX K H (.ref a) t ∧ PySem.W.kitAny K t [.type "list", .type "tuple"] = some true := by
  rcases h with h | h | ⟨o, h⟩
  · exact ⟨_, .base (.lst h), rfl⟩
  · exact ⟨_, .base (.tup h), rfl⟩
  · exact ⟨_, .fTuple h, rfl⟩
theorem SeqV.ix {K : PySem.W.Frag} {H : Hp} {a : Addr} {xs : List V} {v : V} {Q : VK} (h : SeqV H a (v :: xs)) (q : Q v H) : rIx K (.ref a) (.int 0) H Q := by
  have e : atI (v :: xs) 0 = some v := atI_nat (j := 0) (xs := v :: xs) rfl
  rcases h.sq (K := K) with h | h
  · exact .inl ⟨a, _, 0, v, rfl, rfl, h, e, q⟩
  · exact .inr (.inl ⟨a, _, 0, v, rfl, rfl, h, e, q⟩)
section
variable {P : Program} {w : World} {K : PySem.W.Frag} {mg : Str → Option Value} {base : Heap}
def spIsBag (K : PySem.W.Frag) : Sp := fun vs H Q _ => ∃ (a : Addr) (c c' : Int) (L : Tb), vs = [.ref a, .int c'] ∧ BagAt K H a c L ∧ Q (.bl (decide (c = c'))) H
abbrev nIsBag : List Str := ["thing", "clock"]
theorem sc_is_bag : FnScope nIsBag nIsBag (defScope s_is_bag) := ⟨rfl, rfl, rfl, by decide +kernel, rfl, by decide +kernel, by decide +kernel⟩
theorem ok_is_bag (T : Top K mg) : Ok P w K mg base 1 "is_bag" nIsBag (spIsBag K) := by
  obtain ⟨fd, F⟩ := fn_is_bag T
  refine ⟨⟨fd, ?_, F.bindsN fun _ _ _ _ _ _ us hl => match us, hl with | [_, _], _ => rfl⟩, g_is_bag T, F.kp⟩
  refine F.ok sc_is_bag (fun vs H Q E h => ?_) (fun cdv A outer s H vs Q E hr h => ?_)
  · obtain ⟨a, c, c', L, rfl, _⟩ := h
    rfl
  · obtain ⟨a, c, c', L, rfl, ⟨dx, t, ea, hw⟩, q⟩ := h
    refine ⟨_, PSs.nox (pss_one (ps_ret (pe_and (pe_callB call_isi (by rfl) (f_isinstance T) (by decide +kernel) (pa_cons (pv 0) (pa_cons (pe_glob (v := .ref (He.ga K "Bag")) rfl (g_Bag T) rfl) pa_nil)))
      (pe_one (pe_cmpR op_eq (pe_fld (pv 0) rfl) (pv 1) (nomark _)))))), ?_⟩
    refine ⟨_, rfl, _, _, _, _, true, rfl, .own _, .base (.ins ea (cls_Bag T) (x_class T) (x_get T) (x_takes T) (x_mro T)), x_is T, true, rfl, iteT ?_⟩
    refine ⟨_, rfl, a, _, dx, _, _, rfl, ea, cls_Bag T, na_Bag_clock T, flds_clock _ _, _, rfl, rfl, ?_⟩
    have e : decide (V.int c = V.int c') = decide (c = c') := decide_eq_decide.mpr ⟨fun z => by injection z, fun z => by rw [z]⟩
    rw [e]
    exact q
/-- bags of one clock, in a row -/
def RowAt (K : PySem.W.Frag) (H : Hp) (a : Addr) (c : Int) (bs : List Addr) : Prop := SeqV H a (bs.map V.ref) ∧ bs ≠ [] ∧ bs.length ≤ 1000 ∧ ∀ b ∈ bs, ∃ L, BagAt K H b c L
theorem RowAt.same {K : PySem.W.Frag} {H H' : Hp} {a : Addr} {c : Int} {bs : List Addr} (h : RowAt K H a c bs) (s : Same H H') : RowAt K H' a c bs := ⟨h.1.same s, h.2.1, h.2.2.1, fun b hb => by
  obtain ⟨L, hL⟩ := h.2.2.2 b hb
  exact ⟨L, hL.same s⟩⟩
def spAreBags (K : PySem.W.Frag) : Sp := fun vs H Q _ => ∃ (a : Addr) (c : Int) (bs : List Addr), vs = [.ref a] ∧ RowAt K H a c bs ∧ ∀ H', Same H H' → Q (.bl true) H'
abbrev nAreBags : List Str := ["thing", "bag"]
theorem sc_are_bags : FnScope nAreBags ["thing"] (defScope s_are_bags) := ⟨rfl, rfl, rfl, by decide +kernel, rfl, by decide +kernel, by decide +kernel⟩
theorem ok_are_bags (T : Top K mg) : Ok P w K mg base 2 "are_bags" ["thing"] (spAreBags K) := by
  obtain ⟨fd, F⟩ := fn_are_bags T
  refine ⟨⟨fd, ?_, F.bindsN fun _ _ _ _ _ _ us hl => match us, hl with | [_], _ => rfl⟩, g_are_bags T, F.kp⟩
  refine F.ok sc_are_bags (fun vs H Q E h => ?_) (fun cdv A outer s H vs Q E hr h => ?_)
  · obtain ⟨a, c, bs, rfl, _⟩ := h
    rfl
  · obtain ⟨a, c, bs, rfl, ⟨hS, hne, hlen, hb⟩, q⟩ := h
    have nd := sc_are_bags.nd
    have hs : sizeLine = 16777216 := sizeLine_eq
    refine ⟨_, PSs.nox (pss_cons (ps_if (PW.pt (pw_or (pt_not (pt_val (pe_callB call_isiT (by rfl) (f_isinstance T) (by decide +kernel) (pa_cons (pv 0) (pa_cons (pe_tup (pa_cons (pe_bltn (v := .ty "list") (by rfl) (f_list T) (by decide +kernel) rfl) (pa_cons (pe_bltn (v := .ty "tuple") (by rfl) (f_tuple T) (by decide +kernel) rfl) pa_nil))) pa_nil)))))
        (pw_or (pt_cmpR op_eq (pe_callB call_len_seq (by rfl) (f_len T) PySem.boot_len (pa_cons (pv 0) pa_nil)) pe_int (nomark _))
        (pw_or1 (pt_not (pt_val (pe_callB call_isi (by rfl) (f_isinstance T) (by decide +kernel) (pa_cons (pe_ix ix_seq (pv 0) pe_int (fun _ _ => rfl)) (pa_cons (pe_glob (v := .ref (He.ga K "Bag")) rfl (g_Bag T) rfl) pa_nil))))))))) (pss_one (ps_ret pe_bl)) pss_nil)
      (pss_one (ps_ret (pe_callB (cr_all rfl) (by rfl) (f_all T) (by decide +kernel) (pa_cons (pe_lc (own := [("bag", 1)]) (g := gName 1) (tt := tYes) rfl nd (pi_seqW (pv 0)) (blkOk_by (N := nAreBags) (sc := defScope s_are_bags) (by decide +kernel))
        (fun _ _ _ _ _ => pg_name (i := 1) nd rfl (Or.inl rfl)) (fun _ _ _ _ _ => pts_nil)
        (fun _ _ _ _ _ => pc (t := tCons (tVar 1) (tCons (tFld K (tOp (rIx K) (tVar 0) (tC (.int 0))) "clock") tNil)) (ok_is_bag T) hr (pa_cons (pv 1) (pa_cons (pe_fld (pe_ix (r := rIx K) ix_seq (pv 0) pe_int (fun _ _ => rfl)) rfl) pa_nil)))) pa_nil))))), ?_⟩
    refine ⟨_, rfl, by show 2 ≤ sizeLine; omega, fun tp ntp => ?_⟩
    have s1 := same_upd (o := .tup [.ty "list", .ty "tuple"]) ntp
    have hS1 := hS.same s1
    obtain ⟨t, t1, t2⟩ := hS1.ty (K := K)
    refine ⟨.ref a, tp, _, t, [.type "list", .type "tuple"], true, rfl, upd_same, .cons (.ty _) (.cons (.ty _) .nil), t1, t2, true, rfl, iteF ?_⟩
    refine ⟨_, rfl, a, _, rfl, hS1.sq, rfl, _, rfl, ?_⟩
    obtain ⟨b0, bs', rfl⟩ : ∃ b0 bs', bs = b0 :: bs' := by
      cases bs with
      | nil => exact absurd rfl hne
      | cons b r => exact ⟨b, r, rfl⟩
    rw [decide_eq_false (show ¬ V.int (((b0 :: bs').map V.ref).length : Int) = V.int 0 from fun z => by
      injection z with z
      rw [List.length_map, List.length_cons] at z
      omega)]
    refine iteF ?_
    obtain ⟨L0, dx, tt, e0, w0⟩ := hb b0 List.mem_cons_self
    refine ⟨_, rfl, hS1.ix ?_⟩
    refine ⟨_, _, _, _, true, rfl, .own _, .base (.ins (s1 _ _ e0) (cls_Bag T) (x_class T) (x_get T) (x_takes T) (x_mro T)), x_is T, true, rfl, iteF ?_⟩
    refine ⟨_, rfl, a, _, rfl, hS1.sq, fun J G wk hG D hD => ?_⟩
    refine lc_it wk (fun i H' => H' D = some (.lst ((List.replicate i true).map V.bl)) ∧ Same (upd H tp (.tup [.ty "list", .ty "tuple"])) H') ⟨upd_same, same_upd hD⟩ (fun i H' _ hP => hG _ hP.2) ?_ ?_
    · rintro i x H1 H2 hi ⟨p1, p2⟩ ⟨rfl, e⟩
      rw [List.getElem?_map] at e
      cases ew : (b0 :: bs')[i]? with
      | none => rw [ew] at e; cases e
      | some b =>
        rw [ew] at e
        have e2 : V.ref b = x := Option.some.inj e
        subst e2
        obtain ⟨L, hL⟩ := hb b (List.mem_of_getElem? ew)
        rw [List.length_map] at hi
        refine ⟨rfl, ?_⟩
        refine ⟨_, rfl, _, rfl, (hS1.same p2).ix ?_⟩
        refine ⟨b0, _, dx, _, _, rfl, p2 _ _ (s1 _ _ e0), cls_Bag T, na_Bag_clock T, flds_clock _ _, ?_⟩
        refine ⟨b, c, c, L, rfl, (hL.same s1).same p2, ?_⟩
        rw [decide_eq_true rfl]
        refine ⟨_, p1, ?_, ?_, ?_⟩
        · rw [List.length_map, List.length_replicate]
          omega
        · rw [upd_same, List.replicate_succ', List.map_append]
          rfl
        · intro y o z
          have n : y ≠ D := ne_of_none z hD
          rw [upd_ne n]
          exact p2 y o z
    · rintro H' ⟨p1, p2⟩
      refine ⟨D, List.replicate _ true, rfl, .inl (.inl p1), ?_⟩
      have e1 : ∀ n, (List.replicate n true).all id = true := fun n => by
        rw [List.all_eq_true]
        intro b hb
        exact (List.mem_replicate.mp hb).2
      rw [e1]
      exact q _ (s1.trans p2)
def spCheckBags (K : PySem.W.Frag) : Sp := fun vs H Q _ => ∃ (a : Addr) (c : Int) (bs : List Addr), vs = [.ref a] ∧ RowAt K H a c bs ∧ ∀ H', Same H H' → Q .non H'
theorem sc_check_bags : FnScope ["bags"] ["bags"] (defScope s_check_bags) := ⟨rfl, rfl, rfl, by decide +kernel, rfl, by decide +kernel, by decide +kernel⟩
theorem ok_check_bags (T : Top K mg) : Ok P w K mg base 3 "check_bags" ["bags"] (spCheckBags K) := by
  obtain ⟨fd, F⟩ := fn_check_bags T
  refine ⟨⟨fd, ?_, F.bindsN fun _ _ _ _ _ _ us hl => match us, hl with | [_], _ => rfl⟩, g_check_bags T, F.kp⟩
  refine F.ok sc_check_bags (fun vs H Q E h => ?_) (fun cdv A outer s H vs Q E hr h => ?_)
  · obtain ⟨a, c, bs, rfl, _⟩ := h
    rfl
  · obtain ⟨a, c, bs, rfl, hR, q⟩ := h
    refine ⟨_, PSs.nox (pss_one (ps_if (pt_not (pt_val (pc (ok_are_bags T) hr (pa_cons (pv 0) pa_nil)))) (pss_one ps_never) pss_nil)), ?_⟩
    exact ⟨_, rfl, a, c, bs, rfl, hR, fun H' s => ⟨true, rfl, iteF (q H' s)⟩⟩
/-! ### several behind one another -/
def pkN (qs : List (Addr × Nat × Tb)) : Nat := qs.foldl (fun x q => x * q.2.1) 1
def pbT (qs : List (Addr × Nat × Tb)) : Tb := qs.foldl (fun x q => prs x q.2.2) [("", 1)]
theorem pkN_take {qs : List (Addr × Nat × Tb)} {i : Nat} {q : Addr × Nat × Tb} (e : qs[i]? = some q) : pkN (qs.take (i + 1)) = pkN (qs.take i) * q.2.1 := by
  unfold pkN
  rw [List.take_add_one, e, List.foldl_append]
  rfl
theorem pbT_take {qs : List (Addr × Nat × Tb)} {i : Nat} {q : Addr × Nat × Tb} (e : qs[i]? = some q) : pbT (qs.take (i + 1)) = prs (pbT (qs.take i)) q.2.2 := by
  unfold pbT
  rw [List.take_add_one, e, List.foldl_append]
  rfl
theorem pkN_le {qs : List (Addr × Nat × Tb)} (h : ∀ q ∈ qs, 1 ≤ q.2.1) (i : Nat) : pkN (qs.take i) ≤ pkN qs := by
  have key : ∀ (r : List (Addr × Nat × Tb)) (x : Nat), (∀ q ∈ r, 1 ≤ q.2.1) → x ≤ r.foldl (fun x q => x * q.2.1) x := by
    intro r
    induction r with
    | nil => intro x _; exact Nat.le_refl _
    | cons q r ih =>
      intro x hq
      have h1 := ih (x * q.2.1) fun z hz => hq z (List.mem_cons_of_mem _ hz)
      have h2 := Nat.mul_le_mul_left x (hq q List.mem_cons_self)
      rw [List.foldl_cons]
      omega
  have e : pkN qs = (qs.drop i).foldl (fun x q => x * q.2.1) (pkN (qs.take i)) := by
    unfold pkN
    rw [← List.foldl_append, List.take_append_drop]
  rw [e]
  exact key _ _ fun q hq => h q (List.mem_of_mem_drop hq)
def spAllBeh (K : PySem.W.Frag) : Sp := fun vs H Q _ => ∃ (a : Addr) (c : Int) (m : Nat) (qs : List (Addr × Nat × Tb)), vs = [.ref a] ∧ SeqV H a (qs.map fun q => V.ref q.1) ∧ qs ≠ [] ∧ qs.length ≤ 12 ∧ isCk c ∧ m ≤ 50 ∧ (∀ q ∈ qs, Bg K H q.1 c m q.2.1 q.2.2 ∧ 1 ≤ q.2.1) ∧ pkN qs ≤ 900000 ∧
  ∀ H' r t, Same H H' → H r = none → Bg K H' r c (m * qs.length) (pkN qs) t → Lk c t (pbT qs) → Q (.ref r) H'
abbrev nAllBeh : List Str := ["bags", "table", "bag"]
theorem sc_all_behind : FnScope nAllBeh ["bags"] (defScope s_all_behind) := ⟨rfl, rfl, rfl, by decide +kernel, rfl, by decide +kernel, by decide +kernel⟩
theorem ok_all_behind (T : Top K mg) : Ok P w K mg base 8 "all_behind" ["bags"] (spAllBeh K) := by
  obtain ⟨fd, F⟩ := fn_all_behind T
  refine ⟨⟨fd, ?_, F.bindsN fun _ _ _ _ _ _ us hl => match us, hl with | [_], _ => rfl⟩, g_all_behind T, F.kp⟩
  refine F.ok sc_all_behind (fun vs H Q E h => ?_) (fun cdv A outer s H vs Q E hr h => ?_)
  · obtain ⟨a, c, m, qs, rfl, _⟩ := h
    rfl
  · obtain ⟨a, c, m, qs, rfl, hS, hne, hlen, hck, hm, hb, hk, q⟩ := h
    have nd := sc_all_behind.nd
    have hr1 : Room 1 _ := hr.mono (by decide)
    have hr2 : Room 2 _ := hr.mono (by decide)
    have hr3 : Room 3 _ := hr.mono (by decide)
    obtain ⟨hc2, hc7⟩ := ck_range hck
    have hc0 : 0 < c := by omega
    have hk1 : ∀ q ∈ qs, 1 ≤ q.2.1 := fun q hq => (hb q hq).2
    refine ⟨_, PSs.nox (pss_cons (ps_expr (pc (ok_check_bags T) hr3 (pa_cons (pv 0) pa_nil)))
      (pss_cons (ps_set (i := 1) nd rfl (Or.inl rfl) (pe_disp (pps_cons pe_str pe_int pps_nil) (by rfl) (by rfl) (fun z => by cases z) (by decide)))
      (pss_cons (ps_for PassesOwn.never rfl (pi_seqW (pv 0)) (pg_name (i := 2) nd rfl (Or.inl rfl))
        (pss_one (ps_set (i := 1) nd rfl (Or.inl rfl) (pc (ok_multiplied T) hr2 (pa_cons (pv 1) (pa_cons (pc (ok_table_of T) hr1 (pa_cons (pv 2) pa_nil)) (pa_cons (pe_fld (pv 2) rfl) pa_nil)))))))
      (pss_one (ps_ret (pc (ok_bag_of T) hr (pa_cons (pe_fld (pe_ix ix_seq (pv 0) pe_int (fun _ _ => rfl)) rfl) (pa_cons (pv 1) pa_nil)))))))), ?_⟩
    refine ⟨_, rfl, a, c, qs.map (·.1), rfl, ⟨by rw [List.map_map]; exact hS, by simpa using hne, by rw [List.length_map]; omega, fun b hb' => ?_⟩, fun H1 s1 => ?_⟩
    · obtain ⟨q0, h1, rfl⟩ := List.mem_map.mp hb'
      exact ⟨_, (hb q0 h1).1.1⟩
    refine fun D hD => ⟨upd_same, kv [("", 1)], rfl, Nat.le_of_ble_eq_true rfl, ?_⟩
    rw [upd_upd, merge_kv (vt_unit hc2 0).nd]
    have s2 := s1.trans (same_upd (o := .dK (kv [("", 1)])) hD)
    refine ⟨_, rfl, a, _, rfl, (hS.same s2).sq, fun J G wk hG => ?_⟩
    refine for_it wk (fun i σ H' => ∃ (d : Addr) (v : Option V) (t : Tb), σ = [some (.ref a), some (.ref d), v] ∧ H' d = some (.dK (kv t)) ∧ VT c (m * i) (pkN (qs.take i)) t ∧ Lk c t (pbT (qs.take i)) ∧ H d = none ∧ Same (upd H1 D (.dK (kv [("", 1)]))) H')
      ⟨D, none, [("", 1)], rfl, upd_same, (vt_unit hc2 _), Lk.refl _ _, s1.free hD, Same.refl _⟩ (fun _ _ H' _ hP => hG H' hP.choose_spec.choose_spec.choose_spec.2.2.2.2.2) ?_ ?_
    · rintro i x σ H2 H3 hi ⟨d, v, t, rfl, p1, p2, p3, p4, p5⟩ ⟨rfl, e⟩
      rw [List.getElem?_map] at e
      rw [List.length_map] at hi
      cases ew : qs[i]? with
      | none => rw [ew] at e; cases e
      | some q0 =>
        rw [ew] at e
        have e2 : V.ref q0.1 = x := Option.some.inj e
        subst e2
        obtain ⟨⟨hb0, v0⟩, k0⟩ := hb q0 (List.mem_of_getElem? ew)
        have v1 := vt_canon v0
        have hs5 := s2.trans p5
        obtain ⟨dx, tt, ea, wa⟩ := id (hb0.same hs5)
        have kp := pkN_le hk1 (i + 1)
        rw [pkN_take ew] at kp
        have hmi : m * i ≤ 50 * 12 := Nat.mul_le_mul hm (by omega)
        refine ⟨_, rfl, _, rfl, q0.1, c, canon q0.2.2, rfl, hb0.same hs5, v1.nd, fun D1 hD1 => ?_⟩
        have s3 := same_upd (o := .dK (kv (canon q0.2.2))) hD1
        refine ⟨_, rfl, q0.1, _, dx, _, _, rfl, s3 _ _ ea, cls_Bag T, na_Bag_clock T, flds_clock _ _, ?_⟩
        refine ⟨d, D1, c, m * i, pkN (qs.take i), m, q0.2.1, t, canon q0.2.2, rfl, hc0, hc7, ne_of_none p1 hD1, s3 _ _ p1, upd_same, p2, v1, by omega, by omega, by omega, fun H4 D3 s4 n3 e3 => ?_⟩
        obtain ⟨w1, w2⟩ := vt_mul hc0 p2 v1
        refine ⟨D3, _, _, rfl, e3, ?_, ?_, (hs5.trans s3).free n3, (p5.trans s3).trans s4⟩
        · rw [Nat.mul_succ, pkN_take ew]
          exact w1
        · rw [pbT_take ew]
          exact w2.trans (Lk.prs p3 (lk_canon v0.nd))
    · rintro σ H2 ⟨d, v, t, rfl, p1, p2, p3, p4, p5⟩
      rw [List.length_map] at p2 p3
      rw [List.take_length] at p2 p3
      have hs5 := s2.trans p5
      obtain ⟨q0, qs', rfl⟩ : ∃ q0 qs', qs = q0 :: qs' := by
        cases qs with
        | nil => exact absurd rfl hne
        | cons b r => exact ⟨b, r, rfl⟩
      obtain ⟨dx, tt, ea, wa⟩ := id ((hb q0 List.mem_cons_self).1.1.same hs5)
      have hmi : m * (q0 :: qs').length ≤ 50 * 12 := Nat.mul_le_mul hm hlen
      obtain ⟨w3, w4⟩ := vt_again hc0 p2
      refine ⟨_, rfl, (hS.same hs5).ix ?_⟩
      refine ⟨q0.1, _, dx, _, _, rfl, ea, cls_Bag T, na_Bag_clock T, flds_clock _ _, ?_⟩
      refine ⟨_, rfl, c, d, t, rfl, hck, p1, p2.nd, fun p hp => Nat.le_trans (p2.wd p hp).2 (by omega), Nat.le_trans p2.ln (by omega), fun H4 r s4 n4 hb4 => ?_⟩
      exact q H4 r _ (hs5.trans s4) (hs5.free n4) ⟨hb4, w3⟩ (w4.trans p3)
end
end Fp

set_option Elab.async false
set_option linter.all false
set_option maxRecDepth 100000
set_option maxHeartbeats 4000000
/-! the bench: made, changed, told -/
namespace Fp
open PySem PySem.Spec PyProof.Rows L2
def bf (c : Int) (row past : Addr) : List (Str × V) := putF "_past" (.ref past) (putF "_row" (.ref row) (putF "_clock" (.int c) []))
theorem kb1 : ¬ (("_clock" : Str) = "_row") := by decide +kernel
theorem kb2 : ¬ (("_clock" : Str) = "_past") := by decide +kernel
theorem kb3 : ¬ (("_row" : Str) = "_past") := by decide +kernel
theorem bf_eq (c : Int) (row past : Addr) : bf c row past = ([("_clock", V.int c), ("_row", V.ref row), ("_past", V.ref past)] : List (Str × V)) := by
  unfold bf
  show putF "_past" (.ref past) (if ("_clock" : Str) = "_row" then _ else (("_clock" : Str), V.int c) :: putF "_row" (.ref row) []) = _
  rw [if_neg kb1]
  show (if ("_clock" : Str) = "_past" then _ else (("_clock" : Str), V.int c) :: putF "_past" (.ref past) [(("_row" : Str), V.ref row)]) = _
  rw [if_neg kb2]
  show (("_clock" : Str), V.int c) :: (if ("_row" : Str) = "_past" then _ else (("_row" : Str), V.ref row) :: putF "_past" (.ref past) []) = _
  rw [if_neg kb3]
  rfl
theorem bf_clock (c : Int) (row past : Addr) : (bf c row past).lookup ("_clock" : Str) = some (.int c) := by
  unfold bf
  rw [lookup_putF, if_neg kb2, lookup_putF, if_neg kb1, lookup_putF, if_pos rfl]
theorem bf_row (c : Int) (row past : Addr) : (bf c row past).lookup ("_row" : Str) = some (.ref row) := by
  unfold bf
  rw [lookup_putF, if_neg kb3, lookup_putF, if_pos rfl]
theorem bf_past (c : Int) (row past : Addr) : (bf c row past).lookup ("_past" : Str) = some (.ref past) := by
  unfold bf
  rw [lookup_putF, if_pos rfl]
theorem bf_none (c : Int) (row past : Addr) (m : Str) (h : m ≠ "_clock" ∧ m ≠ "_row" ∧ m ≠ "_past" := by decide +kernel) : (bf c row past).lookup m = none := by
  unfold bf
  rw [lookup_putF, if_neg h.2.2, lookup_putF, if_neg h.2.1, lookup_putF, if_neg h.1]
  rfl
theorem putF_bf (c : Int) (row past row' : Addr) : putF "_row" (.ref row') (bf c row past) = bf c row' past := by
  rw [bf_eq, bf_eq]
  show (if ("_clock" : Str) = "_row" then _ else (("_clock" : Str), V.int c) :: putF "_row" (.ref row') [(("_row" : Str), V.ref row), (("_past" : Str), V.ref past)]) = _
  rw [if_neg kb1]
  show (("_clock" : Str), V.int c) :: (if ("_row" : Str) = "_row" then ((("_row" : Str), V.ref row') :: [(("_past" : Str), V.ref past)]) else _) = _
  rw [if_pos rfl]
/-- a bench: its clock, its row, its past -/
structure Bn (K : PySem.W.Frag) (H : Hp) (q : Addr) (c : Int) (row past : Addr) (as : List Addr) (ps : List V) : Prop where
  at_ : ∃ dx, H q = some (.ins (He.ga K "Bench") dx (bf c row past))
  row : H row = some (.tup (as.map V.ref))
  past : H past = some (.lst ps)
theorem Bn.same {K : PySem.W.Frag} {H H' : Hp} {q : Addr} {c : Int} {row past : Addr} {as : List Addr} {ps : List V} (b : Bn K H q c row past as ps) (s : Same H H') : Bn K H' q c row past as ps := by
  obtain ⟨⟨dx, h1⟩, h2, h3⟩ := b
  exact ⟨⟨dx, s _ _ h1⟩, s _ _ h2, s _ _ h3⟩
theorem Bn.ext {K : PySem.W.Frag} {H H' : Hp} {q : Addr} {c : Int} {row past : Addr} {as : List Addr} {ps : List V} (b : Bn K H q c row past as ps) (s : LamX.ExtN H H') : Bn K H' q c row past as ps := by
  obtain ⟨⟨dx, h1⟩, h2, h3⟩ := b
  exact ⟨⟨dx, s _ _ h1 (by intro ps z; cases z)⟩, s _ _ h2 (by intro ps z; cases z), s _ _ h3 (by intro ps z; cases z)⟩
/-- what a deed changes: the bench and its past -/
def But2 (q past : Addr) (H H' : Hp) : Prop := ∀ b o, H b = some o → b ≠ q → b ≠ past → H' b = some o
theorem bag_q {K : PySem.W.Frag} {H : Hp} {b q : Addr} {c c' : Int} {L : Tb} {row past dx : Addr} (hb : BagAt K H b c L) (hq : H q = some (.ins (He.ga K "Bench") dx (bf c' row past))) : b ≠ q := by
  obtain ⟨dx', t, h1, _⟩ := hb
  rintro rfl
  rw [h1] at hq
  have e : flds c t = bf c' row past := by injection hq with hq; injection hq
  rw [flds_eq, bf_eq] at e
  have e1 : (("clock" : Str), V.int c) = (("_clock" : Str), V.int c') := (List.cons.inj e).1
  have e2 : ("clock" : Str) = "_clock" := congrArg Prod.fst e1
  exact absurd e2 (by decide +kernel)
theorem BagAt.but2 {K : PySem.W.Frag} {H H' : Hp} {b q past : Addr} {c : Int} {L : Tb} (hb : BagAt K H b c L) (hq : ∃ dx c' row pa, H q = some (.ins (He.ga K "Bench") dx (bf c' row pa))) (hp : ∃ xs, H past = some (.lst xs)) (k : But2 q past H H') : BagAt K H' b c L := by
  obtain ⟨dx2, c', row, pa, hq⟩ := hq
  obtain ⟨xs, hp⟩ := hp
  have nb := bag_q hb hq
  obtain ⟨dx, t, h1, ps, o, e1, e2, e3⟩ := hb
  have np : ∀ {a : Addr} {u : HO}, H a = some u → (∀ ys, u ≠ .lst ys) → a ≠ past := fun e h => ne_of e hp (h xs)
  have nq : ∀ {a : Addr} {u : HO}, H a = some u → (∀ C d f, u ≠ .ins C d f) → a ≠ q := fun e h => ne_of e hq (h _ _ _)
  exact ⟨dx, t, k _ _ h1 nb (np h1 (by intro ys z; cases z)), ps, o, k _ _ e1 (nq e1 (by intro C d f z; cases z)) (np e1 (by intro ys z; cases z)), e2, Paired.mapP e3 fun a q z => k _ _ z (nq z (by intro C d f y; cases y)) (np z (by intro ys y; cases y))⟩
theorem cat_same {K : PySem.W.Frag} {H : Hp} {a b : Addr} {xs ys : List V} {Q : VK} (ha : H a = some (.tup xs)) (hb : H b = some (.tup ys)) (hl : xs.length + ys.length ≤ 1000) (q : ∀ H' r, Same H H' → H' r = some (.tup (xs ++ ys)) → Q (.ref r) H') : rCatA K (.ref a) (.ref b) H Q := by
  refine ⟨a, b, xs, ys, rfl, rfl, .inl (.inl ha), .inl (.inl hb), by rw [sizeLine_eq]; omega, fun e => ?_, fun _ e => ?_, fun _ _ p np => q _ p (same_upd np) upd_same⟩
  · subst e
    exact q H b (Same.refl H) hb
  · subst e
    exact q H a (Same.refl H) (by rw [List.append_nil]; exact ha)
theorem sl_same {K : PySem.W.Frag} {H : Hp} {a : Addr} {xs : List V} {lo hi : Option Int} {Q : VK} (ha : H a = some (.tup xs)) (q : ∀ H' r, Same H H' → H' r = some (.tup (cutV xs lo hi)) → Q (.ref r) H') : rSlA K (.ref a) lo hi H Q := by
  refine ⟨a, xs, rfl, .inl (.inl ha), fun e => ?_, fun _ p np => q _ p (same_upd np) upd_same⟩
  refine q H a (Same.refl H) ?_
  unfold cutV
  rw [e.1, e.2, List.drop_zero, Nat.sub_zero, List.take_length]
  exact ha
theorem cut_to {xs : List V} {i : Nat} (h : i ≤ xs.length) : cutV xs none (some (i : Int)) = xs.take i := by
  unfold cutV
  rw [HT.sIx_none, HT.sIx_nat, List.drop_zero, Nat.sub_zero, Nat.min_eq_left h]
theorem cut_from {xs : List V} {i : Nat} (h : i ≤ xs.length) : cutV xs (some (i : Int)) none = xs.drop i := by
  unfold cutV
  rw [HT.sIx_none, HT.sIx_nat, Nat.min_eq_left h]
  exact List.take_of_length_le (by rw [List.length_drop]; exact Nat.le_refl _)
section
variable {P : Program} {w : World} {K : PySem.W.Frag} {mg : Str → Option Value} {base : Heap}
/-- a method of a bench -/
structure OkM (P : Program) (w : World) (K : PySem.W.Frag) (mg : Str → Option Value) (base : Heap) (k : Nat) (m : Str) (ps : List Str) (sp : Sp) : Prop where
  ex : ∃ fd, FnOk P w K mg base CX0 k (He.ma K (He.ga K "Bench") m) fd ps sp ∧ Binds K fd ps []
def spBec (K : PySem.W.Frag) : Sp := fun vs H Q _ => ∃ (q row past row' : Addr) (c : Int) (as : List Addr) (ps : List V), vs = [.ref q, .ref row'] ∧ Bn K H q c row past as ps ∧ ps.length ≤ 1000 ∧ ∀ H', But2 q past H H' → (∃ dx, H' q = some (.ins (He.ga K "Bench") dx (bf c row' past))) → H' past = some (.lst (ps ++ [.ref row])) → Q .non H'
abbrev nBec : List Str := ["self", "row"]
theorem sc_bec : FnScope nBec nBec (defScope s_Bench_become) := ⟨rfl, rfl, rfl, by decide +kernel, rfl, by decide +kernel, by decide +kernel⟩
theorem okM_bec (T : Top K mg) : OkM P w K mg base 1 "_become" nBec (spBec K) := by
  obtain ⟨fd, F⟩ := fn_Bench_become T
  refine ⟨⟨fd, ?_, F.bindsN fun _ _ _ _ _ _ us hl => match us, hl with | [_, _], _ => rfl⟩⟩
  refine F.ok sc_bec (fun vs H Q E h => ?_) (fun cdv A outer s H vs Q E hr h => ?_)
  · obtain ⟨q, row, past, row', c, as, ps, rfl, _⟩ := h
    rfl
  · obtain ⟨q, row, past, row', c, as, ps, rfl, ⟨⟨dx, h1⟩, h2, h3⟩, hl, qq⟩ := h
    have hs : sizeLine = 16777216 := sizeLine_eq
    refine ⟨_, PSs.nox (pss_cons (ps_expr (pe_bm PySem.F.plainAttrs_list PySem.F.slot_list_append PySem.F.type_list_append mt_append (pe_fld (pv 0) rfl) (pa_cons (pe_fld (pv 0) rfl) pa_nil)))
      (pss_one (ps_fld (pv 0) (pv 1) rfl))), ?_⟩
    have nqp : q ≠ past := ne_of h1 h3 (by intro z; cases z)
    refine ⟨_, rfl, q, _, dx, _, _, rfl, h1, cls_Bench T, na_Bench__past T, bf_past _ _ _, .inl ⟨rfl, _, SqL.of h3⟩, _, rfl, q, _, dx, _, _, rfl, h1, cls_Bench T, na_Bench__row T, bf_row _ _ _, past, _, _, rfl, rfl, h3, by omega, ?_⟩
    refine ⟨_, rfl, _, rfl, q, _, dx, _, rfl, by rw [upd_ne nqp]; exact h1, cls_Bench T, na_Bench__row T, by rw [bf_eq]; show 3 < 1000; decide, ?_⟩
    rw [putF_bf]
    refine qq _ (fun b o e n1 n2 => ?_) ⟨dx, upd_same⟩ ?_
    · rw [upd_ne n1, upd_ne n2]
      exact e
    · rw [upd_ne nqp.symm, upd_same]
def spRoomM (K : PySem.W.Frag) : Sp := fun vs H Q _ => ∃ (q row past : Addr) (c : Int) (as : List Addr) (ps : List V), vs = [.ref q] ∧ Bn K H q c row past as ps ∧ as.length < 12 ∧ Q .non H
theorem sc_room : FnScope ["self"] ["self"] (defScope s_Bench_check_room) := ⟨rfl, rfl, rfl, by decide +kernel, rfl, by decide +kernel, by decide +kernel⟩
theorem okM_room (T : Top K mg) : OkM P w K mg base 1 "_check_room" ["self"] (spRoomM K) := by
  obtain ⟨fd, F⟩ := fn_Bench_check_room T
  obtain ⟨tk, hM⟩ := i_MOST_BAGS T
  refine ⟨⟨fd, ?_, F.bindsN fun _ _ _ _ _ _ us hl => match us, hl with | [_], _ => rfl⟩⟩
  refine F.ok sc_room (fun vs H Q E h => ?_) (fun cdv A outer s H vs Q E hr h => ?_)
  · obtain ⟨q, row, past, c, as, ps, rfl, _⟩ := h
    rfl
  · obtain ⟨q, row, past, c, as, ps, rfl, ⟨⟨dx, h1⟩, h2, h3⟩, hl, qq⟩ := h
    refine ⟨_, PSs.nox (pss_one (ps_if (pt_cmpR op_ge (pe_callB call_len_seq (by rfl) (f_len T) PySem.boot_len (pa_cons (pe_fld (pv 0) rfl) pa_nil)) (pe_glob (v := .int 12) rfl hM ⟨_, rfl⟩) (nomark _)) (pss_one ps_never) pss_nil)), ?_⟩
    refine ⟨_, rfl, q, _, dx, _, _, rfl, h1, cls_Bench T, na_Bench__row T, bf_row _ _ _, row, _, rfl, .inr (.inl (.inl h2)), _, _, rfl, rfl, _, rfl, ?_⟩
    rw [List.length_map, decide_eq_false (by omega)]
    exact iteF qq
def spPlace (K : PySem.W.Frag) : Sp := fun vs H Q _ => ∃ (q row past : Addr) (c : Int) (as : List Addr) (ps : List V) (i more : Nat), vs = [.ref q, .int i, .int more] ∧ Bn K H q c row past as ps ∧ i + more < as.length ∧ Q .non H
abbrev nPlace : List Str := ["self", "place", "more"]
theorem sc_place : FnScope nPlace nPlace (defScope s_Bench_check_place) := ⟨rfl, rfl, rfl, by decide +kernel, rfl, by decide +kernel, by decide +kernel⟩
theorem okM_place (T : Top K mg) : OkM P w K mg base 3 "_check_place" nPlace (spPlace K) := by
  obtain ⟨fd, F⟩ := fn_Bench_check_place T
  refine ⟨⟨fd, ?_, F.bindsN fun _ _ _ _ _ _ us hl => match us, hl with | [_, _, _], _ => rfl⟩⟩
  refine F.ok sc_place (fun vs H Q E h => ?_) (fun cdv A outer s H vs Q E hr h => ?_)
  · obtain ⟨q, row, past, c, as, ps, i, more, rfl, _⟩ := h
    rfl
  · obtain ⟨q, row, past, c, as, ps, i, more, rfl, ⟨⟨dx, h1⟩, h2, h3⟩, hl, qq⟩ := h
    refine ⟨_, PSs.nox (pss_one (ps_if (pt_not (pt_val (pc (ok_is_from_to T) hr (pa_cons (pv 1) (pa_cons pe_int (pa_cons (pe_op op_sub (pe_op op_sub (pe_callB call_len_seq (by rfl) (f_len T) PySem.boot_len (pa_cons (pe_fld (pv 0) rfl) pa_nil)) pe_int) (pv 2)) pa_nil)))))) (pss_one ps_never) pss_nil)), ?_⟩
    refine ⟨_, rfl, _, rfl, q, _, dx, _, _, rfl, h1, cls_Bench T, na_Bench__row T, bf_row _ _ _, row, _, rfl, .inr (.inl (.inl h2)), _, _, rfl, rfl, _, rfl, _, _, rfl, rfl, _, _, _, rfl, _, rfl, ?_⟩
    rw [List.length_map, decide_eq_true (by omega), decide_eq_true (by omega)]
    exact iteF qq
end
end Fp

set_option Elab.async false
set_option linter.all false
set_option maxRecDepth 100000
set_option maxHeartbeats 4000000
/-! the bench: what a deed does -/
namespace Fp
open PySem PySem.Spec PyProof.Rows L2
theorem ix_at {K : PySem.W.Frag} {H : Hp} {a : Addr} {xs : List V} {i : Nat} {v : V} {Q : VK} (h : H a = some (.tup xs)) (e : xs[i]? = some v) (q : Q v H) : rIx K (.ref a) (.int i) H Q := .inr (.inl ⟨a, xs, i, v, rfl, rfl, .inl (.inl h), atI_nat e, q⟩)
theorem bec_of {K : PySem.W.Frag} {H H2 : Hp} {q row past row' : Addr} {c : Int} {as as' : List Addr} {ps : List V} {Q : VK} {E : XK} (b : Bn K H q c row past as ps) (s : Same H H2) (hr : H2 row' = some (.tup (as'.map V.ref))) (hl : ps.length ≤ 1000) (k : ∀ H', But2 q past H2 H' → Bn K H' q c row' past as' (ps ++ [.ref row]) → Q .non H') : spBec K (.ref q :: ([.ref row'] ++ [])) H2 Q E := by
  refine ⟨q, row, past, row', c, as, ps, rfl, b.same s, hl, fun H' k1 hq hp => k H' k1 ⟨hq, k1 _ _ hr ?_ ?_, hp⟩⟩
  · obtain ⟨dx, h1⟩ := b.at_
    exact ne_of hr (s _ _ h1) (by intro z; cases z)
  · exact ne_of hr (s _ _ b.past) (by intro z; cases z)
theorem But2.pre {q past : Addr} {H H1 H2 : Hp} (s : Same H H1) (k : But2 q past H1 H2) : But2 q past H H2 := fun b o e n1 n2 => k b o (s _ _ e) n1 n2
theorem vt_put1 {c : Int} {k : Nat} {l : Tb} (hc : 0 < c) (h : VT c 12 k l) {x : Str} {n : Int} (hx : xyz x) (hl : x.length ≤ 12) : VT c 12 (k + 1) (tidyM c (tidyM c (addT (scl 1 [(x, n)]) l))) ∧ Lk c (tidyM c (tidyM c (addT (scl 1 [(x, n)]) l))) (l ++ [(x, n)]) := by
  rw [scl_one]
  have n1 := nd_addT [(x, n)] l h.nd
  have v : VT c 12 (k + 1) (tidyM c (addT [(x, n)] l)) := (vt_tidy (m := 12) hc n1 fun p hp => by
    rcases key_addT _ _ p hp with ⟨q, h1, h2⟩ | ⟨q, h1, h2⟩
    · rw [← h2]
      exact h.wd q h1
    · rw [List.mem_singleton] at h1
      subst h1
      rw [← h2]
      exact ⟨hx, hl⟩).mono (Nat.le_refl _) (by
    have := len_addT [(x, n)] l
    have := h.ln
    rw [List.length_singleton] at *
    omega)
  obtain ⟨w1, w2⟩ := vt_again hc v
  exact ⟨w1, w2.trans ((lk_tidy n1).trans (lk_addT h.nd))⟩
section
variable {P : Program} {w : World} {K : PySem.W.Frag} {mg : Str → Option Value} {base : Heap}
def spCkc : Sp := fun vs H Q _ => ∃ c : Int, vs = [.int c] ∧ isCk c ∧ Q .non H
theorem sc_ckc : FnScope ["thing"] ["thing"] (defScope s_check_clock) := ⟨rfl, rfl, rfl, by decide +kernel, rfl, by decide +kernel, by decide +kernel⟩
theorem ok_check_clock (T : Top K mg) : Ok P w K mg base 3 "check_clock" ["thing"] spCkc := by
  obtain ⟨fd, F⟩ := fn_check_clock T
  refine ⟨⟨fd, ?_, F.bindsN fun _ _ _ _ _ _ us hl => match us, hl with | [_], _ => rfl⟩, g_check_clock T, F.kp⟩
  refine F.ok sc_ckc (fun vs H Q E h => ?_) (fun cdv A outer s H vs Q E hr h => ?_)
  · obtain ⟨c, rfl, _⟩ := h
    rfl
  · obtain ⟨c, rfl, hc, q⟩ := h
    have hr2 := hr
    refine ⟨_, PSs.nox (pss_one (ps_if (pt_not (pt_val (pc (ok_is_clock T) hr2 (pa_cons (pv 0) pa_nil)))) (pss_one ps_never) pss_nil)), ?_⟩
    exact ⟨_, rfl, c, rfl, hc, true, rfl, iteF q⟩
def spBi (K : PySem.W.Frag) : Sp := fun vs H Q _ => ∃ (q dx : Addr) (c : Int), vs = [.ref q, .int c] ∧ H q = some (.ins (He.ga K "Bench") dx []) ∧ isCk c ∧ ∀ H' row past, But q H H' → H past = none → Bn K H' q c row past [] [] → Q .non H'
abbrev nBi : List Str := ["self", "clock"]
theorem sc_bi : FnScope nBi nBi (defScope s_Bench__init__) := ⟨rfl, rfl, rfl, by decide +kernel, rfl, by decide +kernel, by decide +kernel⟩
theorem ok_bi (T : Top K mg) : ∃ fd, FnOk P w K mg base CX0 4 (He.ma K (He.ga K "Bench") "__init__") fd nBi (spBi K) ∧ Binds K fd nBi [] := by
  obtain ⟨fd, F⟩ := fn_Bench__init__ T
  refine ⟨fd, ?_, F.bindsN fun _ _ _ _ _ _ us hl => match us, hl with | [_, _], _ => rfl⟩
  refine F.ok sc_bi (fun vs H Q E h => ?_) (fun cdv A outer s H vs Q E hr h => ?_)
  · obtain ⟨q, dx, c, rfl, _⟩ := h
    rfl
  · obtain ⟨q, dx, c, rfl, hb, hc, qq⟩ := h
    have hr3 := hr
    refine ⟨_, PSs.nox (pss_cons (ps_expr (pc (ok_check_clock T) hr3 (pa_cons (pv 1) pa_nil)))
      (pss_cons (ps_fld (pv 0) (pv 1) rfl)
      (pss_cons (ps_fld (pv 0) (pe_tup pa_nil) rfl)
      (pss_one (ps_fld (pv 0) (pe_lst pa_nil) rfl))))), ?_⟩
    refine ⟨_, rfl, c, rfl, hc, ?_⟩
    refine ⟨_, rfl, _, rfl, q, _, dx, [], rfl, hb, cls_Bench T, na_Bench__clock T, by show 0 < 1000; decide, ?_⟩
    refine ⟨Nat.zero_le _, fun t ht => ⟨_, rfl, q, _, dx, putF "_clock" (.int c) [], rfl, ?_, cls_Bench T, na_Bench__row T, by show 1 < 1000; decide, ?_⟩⟩
    · rw [upd_ne (ne_of_none (upd_same (H := H)) ht), upd_same]
      rfl
    refine ⟨Nat.zero_le _, fun p hp => ⟨_, rfl, q, _, dx, putF "_row" (.ref t) (putF "_clock" (.int c) []), rfl, ?_, cls_Bench T, na_Bench__past T, by show 2 < 1000; decide, ?_⟩⟩
    · rw [upd_ne (ne_of_none (upd_same (H := upd _ t _)) hp), upd_same]
    have hqt : q ≠ t := ne_of_none (upd_same (H := H)) ht
    have hqp : q ≠ p := ne_of_none (upd_same (H := upd _ t _)) hp
    rw [upd_ne hqt.symm] at ht
    rw [upd_ne hqp.symm] at hp
    have htp : t ≠ p := ne_of_none upd_same hp
    rw [upd_ne htp.symm, upd_ne hqp.symm] at hp
    refine qq _ t p (fun b o e n => ?_) hp ⟨⟨dx, upd_same⟩, ?_, ?_⟩
    · rw [upd_ne n, upd_ne (ne_of_none e hp), upd_ne n, upd_ne (ne_of_none e ht), upd_ne n]
      exact e
    · rw [upd_ne hqt.symm, upd_ne htp, upd_ne hqt.symm, upd_same]
      rfl
    · rw [upd_ne hqp.symm, upd_same]
theorem pbench {X : Cx} {p pos : Pos} {e : Expr} {es : List Expr} {t : TA} (T : Top X.K X.mg) (hr : Room 5 X.A) (ha : PA X (e :: es) t) (hg : Gl X "Bench" := by rfl)
    (he : starEach (e :: es) X.env = (false, eval e X.env) :: starEach es X.env := by rfl) (hpl : (backTo pos (starEach es X.env)).any (·.1) = false := by rfl) : PE X (.Call (.Name "Bench" p) (e :: es) [] pos) (tMake (He.ga X.K "Bench") (spBi X.K) [] E0 t) := by
  obtain ⟨fd, F, b⟩ := ok_bi (P := X.prog) (w := X.w) (base := X.base) T
  exact pe_make (mk_Bench T) F hr hg (g_Bench T) b .nil pass0 ha (by decide) he hpl
/-! ### deeds -/
def spLay (K : PySem.W.Frag) : Sp := fun vs H Q _ => ∃ (q row past b : Addr) (c : Int) (as : List Addr) (ps : List V) (L : Tb), vs = [.ref q, .ref b] ∧ Bn K H q c row past as ps ∧ BagAt K H b c L ∧ as.length < 12 ∧ ps.length ≤ 1000 ∧ ∀ H' row', But2 q past H H' → Bn K H' q c row' past (as ++ [b]) (ps ++ [.ref row]) → Q .non H'
abbrev nLay : List Str := ["self", "thing"]
theorem sc_lay : FnScope nLay nLay (defScope s_Benchlay) := ⟨rfl, rfl, rfl, by decide +kernel, rfl, by decide +kernel, by decide +kernel⟩
theorem okM_lay (T : Top K mg) : OkM P w K mg base 2 "lay" nLay (spLay K) := by
  obtain ⟨fd, F⟩ := fn_Benchlay T
  refine ⟨⟨fd, ?_, F.bindsN fun _ _ _ _ _ _ us hl => match us, hl with | [_, _], _ => rfl⟩⟩
  refine F.ok sc_lay (fun vs H Q E h => ?_) (fun cdv A outer s H vs Q E hr h => ?_)
  · obtain ⟨q, row, past, b, c, as, ps, L, rfl, _⟩ := h
    rfl
  · obtain ⟨q, row, past, b, c, as, ps, L, rfl, bn, hb, hl, hp, qq⟩ := h
    obtain ⟨dx, h1⟩ := bn.at_
    have hr1 := hr
    obtain ⟨fdr, Fr, br⟩ := (okM_room (P := P) (w := w) (base := base) T).ex
    have hrr := hr
    obtain ⟨fdb, Fb, bb⟩ := (okM_bec (P := P) (w := w) (base := base) T).ex
    have hrb := hr
    refine ⟨_, PSs.nox (pss_cons (ps_if (pt_not (pt_val (pc (ok_is_bag T) hr1 (pa_cons (pv 1) (pa_cons (pe_fld (pv 0) rfl) pa_nil))))) (pss_one ps_never) pss_nil)
      (pss_cons (ps_expr (pe_meth0 (pv 0) (cls_Bench T) (m_Bench__check_room T) Fr hrr br .nil pass0))
      (pss_one (ps_expr (pe_meth (pv 0) (cls_Bench T) (m_Bench__become T) Fb hrb bb .nil pass0 (pa_cons (pe_op op_catA (pe_fld (pv 0) rfl) (pe_tup (pa_cons (pv 1) pa_nil))) pa_nil)))))), ?_⟩
    refine ⟨_, rfl, _, rfl, q, _, dx, _, _, rfl, h1, cls_Bench T, na_Bench__clock T, bf_clock _ _ _, b, c, c, L, rfl, hb, _, rfl, ?_⟩
    rw [decide_eq_true rfl]
    refine iteF ?_
    refine ⟨_, rfl, q, dx, _, rfl, h1, bf_none _ _ _ _, q, row, past, c, as, ps, rfl, bn, hl, ?_⟩
    refine ⟨_, rfl, q, dx, _, rfl, h1, bf_none _ _ _ _, _, rfl, q, _, dx, _, _, rfl, h1, cls_Bench T, na_Bench__row T, bf_row _ _ _, _, rfl, by show 1 ≤ sizeLine; rw [sizeLine_eq]; decide, fun t ht => ?_⟩
    have s1 := same_upd (o := .tup [.ref b]) ht
    refine cat_same (s1 _ _ bn.row) upd_same (by rw [List.length_map]; show _ + 1 ≤ 1000; omega) fun H2 r s2 hrow => ?_
    refine bec_of (E := E0) (as' := as ++ [b]) bn (s1.trans s2) ?_ hp fun H' k hbn => qq H' r (k.pre (s1.trans s2)) hbn
    rw [hrow, List.map_append]
    rfl
def spTake (K : PySem.W.Frag) : Sp := fun vs H Q _ => ∃ (q row past : Addr) (c : Int) (as : List Addr) (ps : List V) (i : Nat), vs = [.ref q, .int i] ∧ Bn K H q c row past as ps ∧ i < as.length ∧ as.length ≤ 12 ∧ ps.length ≤ 1000 ∧ ∀ H' row', But2 q past H H' → Bn K H' q c row' past (as.take i ++ as.drop (i + 1)) (ps ++ [.ref row]) → Q .non H'
abbrev nTake : List Str := ["self", "place"]
theorem sc_take : FnScope nTake nTake (defScope s_Benchtake) := ⟨rfl, rfl, rfl, by decide +kernel, rfl, by decide +kernel, by decide +kernel⟩
theorem okM_take (T : Top K mg) : OkM P w K mg base 4 "take" nTake (spTake K) := by
  obtain ⟨fd, F⟩ := fn_Benchtake T
  refine ⟨⟨fd, ?_, F.bindsN fun _ _ _ _ _ _ us hl => match us, hl with | [_, _], _ => rfl⟩⟩
  refine F.ok sc_take (fun vs H Q E h => ?_) (fun cdv A outer s H vs Q E hr h => ?_)
  · obtain ⟨q, row, past, c, as, ps, i, rfl, _⟩ := h
    rfl
  · obtain ⟨q, row, past, c, as, ps, i, rfl, bn, hi, hl, hp, qq⟩ := h
    obtain ⟨dx, h1⟩ := bn.at_
    obtain ⟨fdp, Fp, bp⟩ := (okM_place (P := P) (w := w) (base := base) T).ex
    have hrp := hr
    obtain ⟨fdb, Fb, bb⟩ := (okM_bec (P := P) (w := w) (base := base) T).ex
    have hrb : Room 1 _ := hr.mono (by decide)
    refine ⟨_, PSs.nox (pss_cons (ps_expr (pe_meth (pv 0) (cls_Bench T) (m_Bench__check_place T) Fp hrp bp .nil pass0 (pa_cons (pv 1) (pa_cons pe_int pa_nil))))
      (pss_one (ps_expr (pe_meth (pv 0) (cls_Bench T) (m_Bench__become T) Fb hrb bb .nil pass0 (pa_cons (pe_op op_catA (pe_slice sl_tupA (pe_fld (pv 0) rfl) po_none (po_some (pv 1))) (pe_slice sl_tupA (pe_fld (pv 0) rfl) (po_some (pe_op op_add (pv 1) pe_int)) po_none)) pa_nil))))), ?_⟩
    refine ⟨_, rfl, q, dx, _, rfl, h1, bf_none _ _ _ _, _, rfl, q, row, past, c, as, ps, i, 0, rfl, bn, hi, ?_⟩
    refine ⟨_, rfl, q, dx, _, rfl, h1, bf_none _ _ _ _, _, rfl, q, _, dx, _, _, rfl, h1, cls_Bench T, na_Bench__row T, bf_row _ _ _, _, rfl, _, rfl, ?_⟩
    refine sl_same bn.row fun H1 r1 s1 e1 => ?_
    rw [cut_to (by rw [List.length_map]; omega)] at e1
    refine ⟨_, rfl, q, _, dx, _, _, rfl, s1 _ _ h1, cls_Bench T, na_Bench__row T, bf_row _ _ _, _, rfl, _, _, rfl, rfl, _, rfl, ?_⟩
    unfold tNoPart
    refine sl_same (s1 _ _ bn.row) fun H2 r2 s2 e2 => ?_
    rw [show ((i : Int) + 1) = ((i + 1 : Nat) : Int) from rfl, cut_from (by rw [List.length_map]; omega)] at e2
    refine cat_same (s2 _ _ e1) e2 (by rw [List.length_take, List.length_drop, List.length_map]; omega) fun H3 r3 s3 e3 => ?_
    have s := (s1.trans s2).trans s3
    refine bec_of (E := E0) (as' := as.take i ++ as.drop (i + 1)) bn s ?_ hp fun H' k hbn => qq H' r3 (k.pre s) hbn
    rw [e3, List.map_append, List.map_take, List.map_drop]
theorem row_set {as : List Addr} {i n : Nat} (b : Addr) : (((as.map V.ref).take i ++ [V.ref b]) ++ (as.map V.ref).drop n) = (as.take i ++ [b] ++ as.drop n).map V.ref := by
  rw [List.map_append, List.map_append, List.map_take, List.map_drop]
  rfl
def spPutM (K : PySem.W.Frag) : Sp := fun vs H Q _ => ∃ (q row past b : Addr) (c n : Int) (k : Nat) (x : Str) (l : Tb) (as : List Addr) (ps : List V) (i : Nat), vs = [.ref q, .int i, .str x, .int n] ∧ Bn K H q c row past as ps ∧ as[i]? = some b ∧ Bg K H b c 12 k l ∧ isCk c ∧ k ≤ 1000 ∧ xyz x ∧ x.length ≤ 12 ∧ 0 ≤ n ∧ n < c ∧ as.length ≤ 12 ∧ ps.length ≤ 1000 ∧
  ∀ H' row' r t, But2 q past H H' → Bn K H' q c row' past (as.take i ++ [r] ++ as.drop (i + 1)) (ps ++ [.ref row]) → Bg K H' r c 12 (k + 1) t → Lk c t (l ++ [(x, n)]) → Q .non H'
abbrev nPutM : List Str := ["self", "place", "word", "number", "table"]
theorem sc_putM : FnScope nPutM ["self", "place", "word", "number"] (defScope s_Benchput) := ⟨rfl, rfl, rfl, by decide +kernel, rfl, by decide +kernel, by decide +kernel⟩
theorem okM_put (T : Top K mg) : OkM P w K mg base 8 "put" ["self", "place", "word", "number"] (spPutM K) := by
  obtain ⟨fd, F⟩ := fn_Benchput T
  refine ⟨⟨fd, ?_, F.bindsN fun _ _ _ _ _ _ us hl => match us, hl with | [_, _, _, _], _ => rfl⟩⟩
  refine F.ok sc_putM (fun vs H Q E h => ?_) (fun cdv A outer s H vs Q E hr h => ?_)
  · obtain ⟨q, row, past, b, c, n, k, x, l, as, ps, i, rfl, _⟩ := h
    rfl
  · obtain ⟨q, row, past, b, c, n, k, x, l, as, ps, i, rfl, bn, hi, hb, hc, hk, hx, hxl, hn0, hnc, hl, hp, qq⟩ := h
    have nd := sc_putM.nd
    obtain ⟨dx, h1⟩ := bn.at_
    obtain ⟨hc2, hc7⟩ := ck_range hc
    have hil : i < as.length := (List.getElem?_eq_some_iff.mp hi).1
    obtain ⟨fdp, Fp, bp⟩ := (okM_place (P := P) (w := w) (base := base) T).ex
    have hrp : Room 3 _ := hr.mono (by decide)
    obtain ⟨fdb, Fb, bb⟩ := (okM_bec (P := P) (w := w) (base := base) T).ex
    have hrb : Room 1 _ := hr.mono (by decide)
    have hr1 : Room 1 _ := hr.mono (by decide)
    have hr2 : Room 2 _ := hr.mono (by decide)
    have hr7 := hr
    refine ⟨_, PSs.nox (pss_cons (ps_expr (pe_meth (pv 0) (cls_Bench T) (m_Bench__check_place T) Fp hrp bp .nil pass0 (pa_cons (pv 1) (pa_cons pe_int pa_nil))))
      (pss_cons (ps_if (pt_not (pt_val (pc (ok_is_short_word T) hr2 (pa_cons (pv 2) pa_nil)))) (pss_one ps_never) pss_nil)
      (pss_cons (ps_if (pt_not (pt_val (pc (ok_is_from_to T) hr2 (pa_cons (pv 3) (pa_cons pe_int (pa_cons (pe_op op_sub (pe_fld (pv 0) rfl) pe_int) pa_nil)))))) (pss_one ps_never) pss_nil)
      (pss_cons (ps_set (i := 4) nd rfl (by first | exact Or.inl rfl | exact Or.inr rfl) (pc (ok_added T) hr2 (pa_cons (pc (ok_table_of T) hr1 (pa_cons (pe_ix ix_seq (pe_fld (pv 0) rfl) (pv 1) (fun _ _ => rfl)) pa_nil)) (pa_cons (pe_disp (pps_cons (pv 2) (pv 3) pps_nil) (by rfl) (by rfl) (fun z => by cases z) (by decide)) (pa_cons pe_int (pa_cons (pe_fld (pv 0) rfl) pa_nil))))))
      (pss_one (ps_expr (pe_meth (pv 0) (cls_Bench T) (m_Bench__become T) Fb hrb bb .nil pass0 (pa_cons (pe_op op_catA (pe_op op_catA (pe_slice sl_tupA (pe_fld (pv 0) rfl) po_none (po_some (pv 1))) (pe_tup (pa_cons (pc (ok_bag_of T) hr7 (pa_cons (pe_fld (pv 0) rfl) (pa_cons (pv 4) pa_nil))) pa_nil))) (pe_slice sl_tupA (pe_fld (pv 0) rfl) (po_some (pe_op op_add (pv 1) pe_int)) po_none)) pa_nil)))))))), ?_⟩
    refine ⟨_, rfl, q, dx, _, rfl, h1, bf_none _ _ _ _, _, rfl, q, row, past, c, as, ps, i, 0, rfl, bn, hil, ?_⟩
    refine ⟨_, rfl, x, rfl, hx, hxl, true, rfl, iteF ?_⟩
    refine ⟨_, rfl, _, rfl, q, _, dx, _, _, rfl, h1, cls_Bench T, na_Bench__clock T, bf_clock _ _ _, _, _, rfl, rfl, n, 0, c - 1, rfl, _, rfl, ?_⟩
    rw [decide_eq_true hn0, decide_eq_true (show n ≤ c - 1 by omega)]
    refine iteF ?_
    have v1 := vt_canon hb.2
    refine ⟨_, rfl, q, _, dx, _, _, rfl, h1, cls_Bench T, na_Bench__row T, bf_row _ _ _, _, rfl, ix_at bn.row (by rw [List.getElem?_map, hi]; rfl) ⟨b, c, canon l, rfl, hb.1, v1.nd, fun D1 hD1 => ?_⟩⟩
    have s1 := same_upd (o := .dK (kv (canon l))) hD1
    refine fun D2 hD2 => ⟨_, rfl, _, rfl, upd_same, kv [(x, n)], rfl, Nat.le_of_ble_eq_true rfl, ?_⟩
    rw [upd_upd, merge_kv (show Nd [(x, n)] from List.nodup_cons.mpr ⟨by simp, List.nodup_nil⟩)]
    have s2 := same_upd (o := .dK (kv [(x, n)])) hD2
    have s12 := s1.trans s2
    refine ⟨_, rfl, q, _, dx, _, _, rfl, s12 _ _ h1, cls_Bench T, na_Bench__clock T, bf_clock _ _ _, ?_⟩
    refine ⟨D1, D2, 1, c, canon l, [(x, n)], rfl, by omega, hc7, s2 _ _ upd_same, upd_same, v1.nd, fun p hp => by
      rw [List.mem_singleton] at hp
      subst hp
      exact ⟨hn0, hnc⟩, Nat.le_trans v1.ln (by omega), Nat.le_of_ble_eq_true rfl, fun H3 D s3 nD eD => ?_⟩
    have s13 := s12.trans s3
    obtain ⟨w1, w2⟩ := vt_put1 (x := x) (n := n) (by omega) v1 hx hxl
    refine ⟨_, rfl, q, dx, _, rfl, s13 _ _ h1, bf_none _ _ _ _, _, rfl, q, _, dx, _, _, rfl, s13 _ _ h1, cls_Bench T, na_Bench__row T, bf_row _ _ _, _, rfl, _, rfl, ?_⟩
    refine sl_same (s13 _ _ bn.row) fun H4 r4 s4 e4 => ?_
    rw [cut_to (by rw [List.length_map]; omega)] at e4
    have s14 := s13.trans s4
    refine ⟨_, rfl, q, _, dx, _, _, rfl, s14 _ _ h1, cls_Bench T, na_Bench__clock T, bf_clock _ _ _, _, rfl, ?_⟩
    refine ⟨c, D, _, rfl, hc, s4 _ _ eD, tidy_nd (nd_addT _ _ v1.nd), fun p hp => ?_, ?_, fun H5 r s5 nr hbr => ?_⟩
    · have hp' : p ∈ tidyM c (addT (scl 1 [(x, n)]) (canon l)) := hp
      obtain ⟨p1, g1, rfl, _⟩ := tidy_keys hp'
      rcases key_addT _ _ p1 g1 with ⟨z, g2, g3⟩ | ⟨z, g2, g3⟩
      · show p1.1.length ≤ _
        rw [← g3]
        exact Nat.le_trans (v1.wd z g2).2 (by decide)
      · rw [scl_one, List.mem_singleton] at g2
        subst g2
        show p1.1.length ≤ _
        rw [← g3]
        exact Nat.le_trans hxl (by decide)
    · have g1 := tidy_len (c := c) (l := addT (scl 1 [(x, n)]) (canon l))
      have g2 := len_addT (scl 1 [(x, n)]) (canon l)
      rw [scl_len, List.length_singleton] at g2
      have := v1.ln
      omega
    have s15 := s14.trans s5
    refine ⟨by show 1 ≤ sizeLine; rw [sizeLine_eq]; decide, fun t ht => ?_⟩
    have s6 := same_upd (o := .tup [.ref r]) ht
    refine cat_same (s6 _ _ (s5 _ _ e4)) upd_same (by rw [List.length_take, List.length_map]; show _ + 1 ≤ 1000; omega) fun H7 r7 s7 e7 => ?_
    have s17 := (s15.trans s6).trans s7
    refine ⟨_, rfl, q, _, dx, _, _, rfl, s17 _ _ h1, cls_Bench T, na_Bench__row T, bf_row _ _ _, _, rfl, _, _, rfl, rfl, _, rfl, ?_⟩
    unfold tNoPart
    refine sl_same (s17 _ _ bn.row) fun H8 r8 s8 e8 => ?_
    rw [show ((i : Int) + 1) = ((i + 1 : Nat) : Int) from rfl, cut_from (by rw [List.length_map]; omega)] at e8
    refine cat_same (s8 _ _ e7) e8 (by rw [List.length_append, List.length_take, List.length_drop, List.length_map]; show _ + 1 + _ ≤ 1000; omega) fun H9 r9 s9 e9 => ?_
    have s19 := (s17.trans s8).trans s9
    have hbr9 := (((hbr.same s6).same s7).same s8).same s9
    refine bec_of (E := E0) (as' := as.take i ++ [r] ++ as.drop (i + 1)) bn s19 (by rw [e9, row_set]) hp fun H' k1 hbn => ?_
    refine qq H' r9 r _ (k1.pre s19) hbn ⟨?_, w1⟩ (w2.trans ((lk_canon hb.2.nd).app (Lk.refl _ _)))
    exact hbr9.but2 ⟨dx, _, _, _, s19 _ _ h1⟩ ⟨_, s19 _ _ bn.past⟩ k1
def spFuse (K : PySem.W.Frag) : Sp := fun vs H Q _ => ∃ (q row past b b' : Addr) (c : Int) (k k' : Nat) (l l' : Tb) (as : List Addr) (ps : List V) (i : Nat), vs = [.ref q, .int i] ∧ Bn K H q c row past as ps ∧ as[i]? = some b ∧ as[i + 1]? = some b' ∧ Bg K H b c 12 k l ∧ Bg K H b' c 12 k' l' ∧ isCk c ∧ k * k' ≤ 900000 ∧ as.length ≤ 12 ∧ ps.length ≤ 1000 ∧
  ∀ H' row' r t, But2 q past H H' → Bn K H' q c row' past (as.take i ++ [r] ++ as.drop (i + 2)) (ps ++ [.ref row]) → Bg K H' r c 24 (k * k') t → Lk c t (prs l l') → Q .non H'
abbrev nFuse : List Str := ["self", "place", "bag"]
theorem sc_fuse : FnScope nFuse ["self", "place"] (defScope s_Benchfuse) := ⟨rfl, rfl, rfl, by decide +kernel, rfl, by decide +kernel, by decide +kernel⟩
theorem okM_fuse (T : Top K mg) : OkM P w K mg base 9 "fuse" ["self", "place"] (spFuse K) := by
  obtain ⟨fd, F⟩ := fn_Benchfuse T
  refine ⟨⟨fd, ?_, F.bindsN fun _ _ _ _ _ _ us hl => match us, hl with | [_, _], _ => rfl⟩⟩
  refine F.ok sc_fuse (fun vs H Q E h => ?_) (fun cdv A outer s H vs Q E hr h => ?_)
  · obtain ⟨q, row, past, b, b', c, k, k', l, l', as, ps, i, rfl, _⟩ := h
    rfl
  · obtain ⟨q, row, past, b, b', c, k, k', l, l', as, ps, i, rfl, bn, hi, hi', hb, hb', hc, hk, hl, hp, qq⟩ := h
    have nd := sc_fuse.nd
    obtain ⟨dx, h1⟩ := bn.at_
    have hil : i + 1 < as.length := (List.getElem?_eq_some_iff.mp hi').1
    obtain ⟨fdp, Fp, bp⟩ := (okM_place (P := P) (w := w) (base := base) T).ex
    have hrp : Room 3 _ := hr.mono (by decide)
    obtain ⟨fdb, Fb, bb⟩ := (okM_bec (P := P) (w := w) (base := base) T).ex
    have hrb : Room 1 _ := hr.mono (by decide)
    have hr8 := hr
    refine ⟨_, PSs.nox (pss_cons (ps_expr (pe_meth (pv 0) (cls_Bench T) (m_Bench__check_place T) Fp hrp bp .nil pass0 (pa_cons (pv 1) (pa_cons pe_int pa_nil))))
      (pss_cons (ps_set (i := 2) nd rfl (by first | exact Or.inl rfl | exact Or.inr rfl) (pcL (ok_behind T) hr8 (pa_cons (pe_ix ix_seq (pe_fld (pv 0) rfl) (pv 1) (fun _ _ => rfl)) (pa_cons (pe_ix ix_seq (pe_fld (pv 0) rfl) (pe_op op_add (pv 1) pe_int) (fun _ _ => rfl)) pa_nil))))
      (pss_one (ps_expr (pe_meth (pv 0) (cls_Bench T) (m_Bench__become T) Fb hrb bb .nil pass0 (pa_cons (pe_op op_catA (pe_op op_catA (pe_slice sl_tupA (pe_fld (pv 0) rfl) po_none (po_some (pv 1))) (pe_tup (pa_cons (pv 2) pa_nil))) (pe_slice sl_tupA (pe_fld (pv 0) rfl) (po_some (pe_op op_add (pv 1) pe_int)) po_none)) pa_nil)))))), ?_⟩
    refine ⟨_, rfl, q, dx, _, rfl, h1, bf_none _ _ _ _, _, rfl, q, row, past, c, as, ps, i, 1, rfl, bn, hil, ?_⟩
    refine ⟨_, rfl, q, _, dx, _, _, rfl, h1, cls_Bench T, na_Bench__row T, bf_row _ _ _, _, rfl, ix_at bn.row (by rw [List.getElem?_map, hi]; rfl) ?_⟩
    refine ⟨_, rfl, q, _, dx, _, _, rfl, h1, cls_Bench T, na_Bench__row T, bf_row _ _ _, _, rfl, _, _, rfl, rfl, ?_⟩
    refine ix_at (i := i + 1) bn.row (by rw [List.getElem?_map, hi']; rfl) ?_
    refine ⟨b, b', c, c, 12, k, 12, k', l, l', rfl, hb, hb', hc, by decide, by decide, hk, fun _ H3 r t s3 nr hbr lk => ?_, fun z => absurd rfl z⟩
    refine ⟨_, rfl, q, dx, _, rfl, s3 _ _ h1, bf_none _ _ _ _, _, rfl, q, _, dx, _, _, rfl, s3 _ _ h1, cls_Bench T, na_Bench__row T, bf_row _ _ _, _, rfl, _, rfl, ?_⟩
    refine sl_same (s3 _ _ bn.row) fun H4 r4 s4 e4 => ?_
    rw [cut_to (by rw [List.length_map]; omega)] at e4
    have s14 := s3.trans s4
    refine ⟨_, rfl, by show 1 ≤ sizeLine; rw [sizeLine_eq]; decide, fun t5 ht => ?_⟩
    have s6 := same_upd (o := .tup [.ref r]) ht
    refine cat_same (s6 _ _ e4) upd_same (by rw [List.length_take, List.length_map]; show _ + 1 ≤ 1000; omega) fun H7 r7 s7 e7 => ?_
    have s17 := (s14.trans s6).trans s7
    refine ⟨_, rfl, q, _, dx, _, _, rfl, s17 _ _ h1, cls_Bench T, na_Bench__row T, bf_row _ _ _, _, rfl, _, _, rfl, rfl, _, rfl, ?_⟩
    unfold tNoPart
    refine sl_same (s17 _ _ bn.row) fun H8 r8 s8 e8 => ?_
    rw [show ((i : Int) + 2) = ((i + 2 : Nat) : Int) from rfl, cut_from (by rw [List.length_map]; omega)] at e8
    refine cat_same (s8 _ _ e7) e8 (by rw [List.length_append, List.length_take, List.length_drop, List.length_map]; show _ + 1 + _ ≤ 1000; omega) fun H9 r9 s9 e9 => ?_
    have s19 := (s17.trans s8).trans s9
    have hbr9 := ((((hbr.same s4).same s6).same s7).same s8).same s9
    refine bec_of (E := E0) (as' := as.take i ++ [r] ++ as.drop (i + 2)) bn s19 (by rw [e9, row_set]) hp fun H' k1 hbn => ?_
    exact qq H' r9 r t (k1.pre s19) hbn ⟨hbr9.1.but2 ⟨dx, _, _, _, s19 _ _ h1⟩ ⟨_, s19 _ _ bn.past⟩ k1, hbr9.2⟩ lk
/-! ### what is told -/
def spBags (K : PySem.W.Frag) : Sp := fun vs H Q _ => ∃ (q row past : Addr) (c : Int) (as : List Addr) (ps : List V), vs = [.ref q] ∧ Bn K H q c row past as ps ∧ ∀ H' r, Same H H' → H r = none → H' r = some (.lst (as.map V.ref)) → Q (.ref r) H'
theorem sc_bags : FnScope ["self"] ["self"] (defScope s_Benchbags) := ⟨rfl, rfl, rfl, by decide +kernel, rfl, by decide +kernel, by decide +kernel⟩
theorem okM_bags (T : Top K mg) : OkM P w K mg base 1 "bags" ["self"] (spBags K) := by
  obtain ⟨fd, F⟩ := fn_Benchbags T
  refine ⟨⟨fd, ?_, F.bindsN fun _ _ _ _ _ _ us hl => match us, hl with | [_], _ => rfl⟩⟩
  refine F.ok sc_bags (fun vs H Q E h => ?_) (fun cdv A outer s H vs Q E hr h => ?_)
  · obtain ⟨q, row, past, c, as, ps, rfl, _⟩ := h
    rfl
  · obtain ⟨q, row, past, c, as, ps, rfl, bn, qq⟩ := h
    obtain ⟨dx, h1⟩ := bn.at_
    refine ⟨_, PSs.nox (pss_one (ps_ret (pe_callTy call_list_of (by rfl) (f_list T) (by decide +kernel) (pa_cons (pe_fld (pv 0) rfl) pa_nil)))), ?_⟩
    exact ⟨_, rfl, q, _, dx, _, _, rfl, h1, cls_Bench T, na_Bench__row T, bf_row _ _ _, row, _, rfl, .inr (.inl (.inl bn.row)), fun r hr => qq _ r (same_upd hr) hr upd_same⟩
def spDepth (K : PySem.W.Frag) : Sp := fun vs H Q _ => ∃ (q row past : Addr) (c : Int) (as : List Addr) (ps : List V), vs = [.ref q] ∧ Bn K H q c row past as ps ∧ Q (.int ps.length) H
theorem sc_depth : FnScope ["self"] ["self"] (defScope s_Benchdepth) := ⟨rfl, rfl, rfl, by decide +kernel, rfl, by decide +kernel, by decide +kernel⟩
theorem okM_depth (T : Top K mg) : OkM P w K mg base 1 "depth" ["self"] (spDepth K) := by
  obtain ⟨fd, F⟩ := fn_Benchdepth T
  refine ⟨⟨fd, ?_, F.bindsN fun _ _ _ _ _ _ us hl => match us, hl with | [_], _ => rfl⟩⟩
  refine F.ok sc_depth (fun vs H Q E h => ?_) (fun cdv A outer s H vs Q E hr h => ?_)
  · obtain ⟨q, row, past, c, as, ps, rfl, _⟩ := h
    rfl
  · obtain ⟨q, row, past, c, as, ps, rfl, bn, qq⟩ := h
    obtain ⟨dx, h1⟩ := bn.at_
    refine ⟨_, PSs.nox (pss_one (ps_ret (pe_callB call_len_seq (by rfl) (f_len T) PySem.boot_len (pa_cons (pe_fld (pv 0) rfl) pa_nil)))), ?_⟩
    exact ⟨_, rfl, q, _, dx, _, _, rfl, h1, cls_Bench T, na_Bench__past T, bf_past _ _ _, past, _, rfl, .inl (SqL.of bn.past), qq⟩
def spWhole (K : PySem.W.Frag) : Sp := fun vs H Q _ => ∃ (q row past : Addr) (c : Int) (qs : List (Addr × Nat × Tb)) (ps : List V), vs = [.ref q] ∧ Bn K H q c row past (qs.map (·.1)) ps ∧ isCk c ∧ qs.length ≤ 11 ∧ (∀ q ∈ qs, Bg K H q.1 c 12 q.2.1 q.2.2 ∧ 1 ≤ q.2.1) ∧ pkN qs ≤ 900000 ∧
  ∀ H' r t, Same H H' → H r = none → Bg K H' r c (12 * (qs.length + 1)) (pkN qs) t → Lk c t (pbT qs) → Q (.ref r) H'
theorem sc_whole : FnScope ["self"] ["self"] (defScope s_Benchwhole) := ⟨rfl, rfl, rfl, by decide +kernel, rfl, by decide +kernel, by decide +kernel⟩
theorem okM_whole (T : Top K mg) : OkM P w K mg base 9 "whole" ["self"] (spWhole K) := by
  obtain ⟨fd, F⟩ := fn_Benchwhole T
  refine ⟨⟨fd, ?_, F.bindsN fun _ _ _ _ _ _ us hl => match us, hl with | [_], _ => rfl⟩⟩
  refine F.ok sc_whole (fun vs H Q E h => ?_) (fun cdv A outer s H vs Q E hr h => ?_)
  · obtain ⟨q, row, past, c, qs, ps, rfl, _⟩ := h
    rfl
  · obtain ⟨q, row, past, c, qs, ps, rfl, bn, hc, hl, hqs, hk, qq⟩ := h
    obtain ⟨dx, h1⟩ := bn.at_
    obtain ⟨hc2, hc7⟩ := ck_range hc
    have hr7 : Room 7 _ := hr.mono (by decide)
    have hr8 := hr
    refine ⟨_, PSs.nox (pss_one (ps_ret (pc (ok_all_behind T) hr8 (pa_cons (pe_op op_catA (pe_tup (pa_cons (pc (ok_bag_of T) hr7 (pa_cons (pe_fld (pv 0) rfl) (pa_cons (pe_disp (pps_cons pe_str pe_int pps_nil) (by rfl) (by rfl) (fun z => by cases z) (by decide)) pa_nil))) pa_nil)) (pe_fld (pv 0) rfl)) pa_nil)))), ?_⟩
    refine ⟨_, rfl, q, _, dx, _, _, rfl, h1, cls_Bench T, na_Bench__clock T, bf_clock _ _ _, fun D hD => ⟨upd_same, kv [("", 1)], rfl, Nat.le_of_ble_eq_true rfl, ?_⟩⟩
    rw [upd_upd, merge_kv (vt_unit hc2 0).nd]
    have s1 := same_upd (o := .dK (kv [("", 1)])) hD
    have vu := vt_unit hc2 12
    refine ⟨c, D, [("", 1)], rfl, hc, upd_same, vu.nd, fun p hp => Nat.le_trans (vu.wd p hp).2 (by decide), Nat.le_trans vu.ln (by decide), fun H2 u s2 nu hu => ?_⟩
    obtain ⟨w1, w2⟩ := vt_again (by omega) vu
    rw [lk_same (by omega) w1 vu w2] at hu
    refine ⟨by show 1 ≤ sizeLine; rw [sizeLine_eq]; decide, fun t ht => ?_⟩
    have s3 := same_upd (o := .tup [.ref u]) ht
    have s13 := (s1.trans s2).trans s3
    refine ⟨_, rfl, q, _, dx, _, _, rfl, s13 _ _ h1, cls_Bench T, na_Bench__row T, bf_row _ _ _, ?_⟩
    refine cat_same upd_same (s13 _ _ bn.row) (by rw [List.length_map, List.length_map]; show 1 + _ ≤ 1000; omega) fun H4 r4 s4 e4 => ?_
    have s14 := s13.trans s4
    have ep : pkN ((u, 1, [("", 1)]) :: qs) = pkN qs := by
      unfold pkN
      rw [List.foldl_cons]
      rfl
    have et : pbT ((u, 1, [("", 1)]) :: qs) = pbT qs := by
      unfold pbT
      rw [List.foldl_cons, prs_one_l]
    refine ⟨r4, c, 12, (u, 1, [("", 1)]) :: qs, rfl, .inr (.inl ?_), by simp, by rw [List.length_cons]; omega, hc, by decide, fun z hz => ?_, by rw [ep]; exact hk, fun H5 r t5 s5 nr hbr lk => ?_⟩
    · rw [e4, List.map_map]
      rfl
    · rcases List.mem_cons.mp hz with rfl | hz
      · exact ⟨⟨(hu.same s3).same s4, vu⟩, Nat.le_refl 1⟩
      · exact ⟨(hqs z hz).1.same s14, (hqs z hz).2⟩
    · rw [ep] at hbr
      rw [et] at lk
      exact qq H5 r t5 (s14.trans s5) (s14.free nr) hbr lk
end
end Fp

set_option Elab.async false
set_option linter.all false
set_option maxRecDepth 100000
set_option maxHeartbeats 4000000
/-! the law's own reckoning: product, sum, size -/
namespace Fp
open PySem PySem.Spec PyProof.Rows L2
/-- the greatest length, -1 for nothing -/
structure LongOf (l : Tb) (m : Int) : Prop where
  lo : -1 ≤ m
  le : ∀ p ∈ l, (p.1.length : Int) ≤ m
  at_ : m = -1 ∨ ∃ p ∈ l, (p.1.length : Int) = m
theorem unlockT {H H' : Hp} {d : Addr} {o : HO} (hd : H d = some o) (k : But d H H') : Same H (upd H' d o) := fun b x e => by
  by_cases n : b = d
  · rw [n, upd_same, ← hd, ← n, e]
  · rw [upd_ne n]
    exact k b x e n
theorem put_rg {c : Int} {t : Tb} {x : Str} {n : Int} (h : ∀ p ∈ t, 0 ≤ p.2 ∧ p.2 < c) (hn : 0 ≤ n ∧ n < c) : ∀ p ∈ putT t x n, 0 ≤ p.2 ∧ p.2 < c := fun p hp => by
  unfold putT at hp
  split at hp
  · obtain ⟨q, hq, rfl⟩ := List.mem_map.mp hp
    split
    · exact hn
    · exact h q hq
  · rcases List.mem_append.mp hp with hp | hp
    · exact h p hp
    · have : p = (x, n) := by simpa using hp
      subst this
      exact hn
theorem PE.weak {e : Expr} {t t' : TE} (h : PE X e t) (w : ∀ σ H Q, t' σ H Q → t σ H Q) : PE X e t' := ⟨fun pins s σ H Q I hw => h.run pins s σ H Q I (w σ H Q hw)⟩
def addC (c : Int) (es a : Tb) : Tb := es.foldl (fun acc p => putT acc p.1 ((num acc p.1 + p.2) % c)) a
def cleanT (l : Tb) : Tb := l.filter fun p => p.2 != 0
theorem clean_nd {l : Tb} (h : Nd l) : Nd (cleanT l) := by
  unfold Nd cleanT
  have h' : (l.map (·.1)).Nodup := h
  exact (List.filter_sublist.map _).nodup h'
theorem clean_take {l : Tb} {i : Nat} {p : Str × Int} (e : l[i]? = some p) : cleanT (l.take (i + 1)) = if p.2 ≠ 0 then cleanT (l.take i) ++ [p] else cleanT (l.take i) := by
  unfold cleanT
  rw [List.take_add_one, e, List.filter_append]
  by_cases h : p.2 = 0
  · rw [if_neg (fun z => z h)]
    simp [h]
  · rw [if_pos h]
    simp [h]
theorem clean_tot (l : Tb) (x : Str) : tot (cleanT l) x = tot l x := by
  induction l with
  | nil => rfl
  | cons p r ih =>
    unfold cleanT at ih ⊢
    by_cases h : p.2 = 0
    · rw [List.filter_cons_of_neg (by simp [h]), ih, tot_cons, h]
      simp
    · rw [List.filter_cons_of_pos (by simp [h]), tot_cons, tot_cons, ih]
theorem addC_app (c : Int) (a b x : Tb) : addC c (a ++ b) x = addC c b (addC c a x) := by
  unfold addC
  rw [List.foldl_append]
theorem addC_take {c : Int} {es : Tb} {i : Nat} {p : Str × Int} (e : es[i]? = some p) (a : Tb) : addC c (es.take (i + 1)) a = putT (addC c (es.take i) a) p.1 ((num (addC c (es.take i) a) p.1 + p.2) % c) := by
  rw [List.take_add_one, e, addC_app]
  rfl
theorem addC_len (c : Int) : ∀ (es a : Tb), (addC c es a).length ≤ a.length + es.length
  | [], a => Nat.le_refl _
  | p :: r, a => by
    have h1 := addC_len c r (putT a p.1 ((num a p.1 + p.2) % c))
    have h2 := len_put a p.1 ((num a p.1 + p.2) % c)
    have e : addC c (p :: r) a = addC c r (putT a p.1 ((num a p.1 + p.2) % c)) := rfl
    rw [e, List.length_cons]
    omega
theorem addC_nd (c : Int) : ∀ (es a : Tb), Nd a → Nd (addC c es a)
  | [], a, h => h
  | p :: r, a, h => addC_nd c r _ (nd_put h p.1 _)
theorem addC_rg {c : Int} (hc : 0 < c) : ∀ (es a : Tb), (∀ p ∈ a, 0 ≤ p.2 ∧ p.2 < c) → ∀ p ∈ addC c es a, 0 ≤ p.2 ∧ p.2 < c
  | [], a, h => h
  | p :: r, a, h => addC_rg hc r _ (put_rg h ⟨Int.emod_nonneg _ (by omega), Int.emod_lt_of_pos _ hc⟩)
theorem addC_key (c : Int) : ∀ (es a : Tb) (q : Str × Int), q ∈ addC c es a → (∃ p ∈ a, p.1 = q.1) ∨ ∃ p ∈ es, p.1 = q.1
  | [], a, q, h => .inl ⟨q, h, rfl⟩
  | p :: r, a, q, h => by
    rcases addC_key c r _ q h with ⟨y, h1, h2⟩ | ⟨y, h1, h2⟩
    · rcases key_put h1 with e | ⟨z, hz, e⟩
      · exact .inr ⟨p, List.mem_cons_self, by rw [← h2, e]⟩
      · exact .inl ⟨z, hz, by rw [e, h2]⟩
    · exact .inr ⟨y, List.mem_cons_of_mem _ h1, h2⟩
theorem addC_num {c : Int} : ∀ (es a : Tb) (x : Str), num (addC c es a) x % c = (num a x + tot es x) % c
  | [], a, x => by
    show num a x % c = (num a x + tot [] x) % c
    rw [tot_nil, Int.add_zero]
  | p :: r, a, x => by
    have e : addC c (p :: r) a = addC c r (putT a p.1 ((num a p.1 + p.2) % c)) := rfl
    rw [e, addC_num r _ x, tot_cons]
    by_cases h : p.1 = x
    · rw [if_pos h, ← h, num_put _ _, Int.add_emod, Int.emod_emod_of_dvd _ (Int.dvd_refl c), ← Int.add_emod]
      congr 1
      omega
    · rw [if_neg h, num_put_ne _ h, Int.zero_add]
/-- laid together by the clock, then cleaned -/
theorem vt_addC {c : Int} {m k : Nat} {es a : Tb} (hc : 0 < c) (hn : Nd a) (hr : ∀ p ∈ a, 0 ≤ p.2 ∧ p.2 < c) (hw : ∀ p ∈ a ++ es, xyz p.1 ∧ p.1.length ≤ m) (hk : a.length + es.length ≤ k) : VT c m k (cleanT (addC c es a)) ∧ Lk c (cleanT (addC c es a)) (a ++ es) := by
  have n1 := addC_nd c es a hn
  refine ⟨⟨clean_nd n1, fun p hp => ?_, fun p hp => ?_, ?_⟩, fun x => ?_⟩
  · obtain ⟨h1, h2⟩ := List.mem_filter.mp hp
    have h3 := addC_rg hc es a hr p h1
    have h4 : p.2 ≠ 0 := by simpa using h2
    omega
  · obtain ⟨h1, h2⟩ := List.mem_filter.mp hp
    rcases addC_key c es a p h1 with ⟨y, h3, h4⟩ | ⟨y, h3, h4⟩
    · rw [← h4]
      exact hw y (List.mem_append_left _ h3)
    · rw [← h4]
      exact hw y (List.mem_append_right _ h3)
  · exact Nat.le_trans (List.length_filter_le _ _) (Nat.le_trans (addC_len c es a) hk)
  · rw [clean_tot, tot_num n1, addC_num, tot_app, tot_num hn]
/-- the law's product -/
def prodC (c : Int) (l1 l2 : Tb) : Tb := cleanT (addC c (prs l1 l2) [])
theorem mem_prs {l1 l2 : Tb} {p : Str × Int} (h : p ∈ prs l1 l2) : ∃ a ∈ l1, ∃ b ∈ l2, p.1 = a.1 ++ b.1 := by
  unfold prs at h
  obtain ⟨r, hr, hp⟩ := List.mem_flatMap.mp h
  obtain ⟨s, hs, rfl⟩ := List.mem_map.mp hp
  exact ⟨r, hr, s, hs, rfl⟩
theorem prodC_vt {c : Int} {m1 k1 m2 k2 m k : Nat} {l1 l2 : Tb} (hc : 0 < c) (v1 : VT c m1 k1 l1) (v2 : VT c m2 k2 l2) (hm : ∀ a ∈ l1, ∀ b ∈ l2, a.1.length + b.1.length ≤ m) (hk : l1.length * l2.length ≤ k) : VT c m k (prodC c l1 l2) ∧ Lk c (prodC c l1 l2) (prs l1 l2) := by
  refine vt_addC (m := m) (k := k) hc (show Nd [] from List.nodup_nil) (fun p hp => (by cases hp)) (es := prs l1 l2) (fun p hp => ?_) (by rw [prs_len]; have : ([] : Tb).length = 0 := rfl; omega)
  rw [List.nil_append] at hp
  obtain ⟨a, ha, b, hb, e⟩ := mem_prs hp
  rw [e]
  exact ⟨xyz_app (v1.wd a ha).1 (v2.wd b hb).1, by rw [len_app]; exact hm a ha b hb⟩
/-- the law's sum -/
def sumC (c : Int) (l1 l2 : Tb) : Tb := l2.foldl (fun acc p => putM c acc p.1 p.2) l1
theorem sumC_take {c : Int} {l1 l2 : Tb} {i : Nat} {p : Str × Int} (e : l2[i]? = some p) : sumC c l1 (l2.take (i + 1)) = putM c (sumC c l1 (l2.take i)) p.1 p.2 := by
  unfold sumC
  rw [List.take_add_one, e, List.foldl_append]
  rfl
theorem sumC_len {c : Int} : ∀ (l2 l1 : Tb), (sumC c l1 l2).length ≤ l1.length + l2.length
  | [], l1 => Nat.le_refl _
  | p :: r, l1 => by
    have h1 := sumC_len (c := c) r (putM c l1 p.1 p.2)
    have h2 := len_putM c l1 p.1 p.2
    have e : sumC c l1 (p :: r) = sumC c (putM c l1 p.1 p.2) r := rfl
    rw [e, List.length_cons]
    omega
theorem sumC_one {c : Int} {m k : Nat} {l : Tb} {x : Str} {n : Int} (hc : 0 < c) (v : VT c m k l) (hx : xyz x) (hl : x.length ≤ m) : VT c m (k + 1) (sumC c l [(x, n)]) ∧ Lk c (sumC c l [(x, n)]) (l ++ [(x, n)]) := by
  have w : VT c m (k + 1) (sumC c l [(x, n)]) := vt_putM hc v hx hl n
  refine ⟨w, fun y => ?_⟩
  have h : num (sumC c l [(x, n)]) y % c = (num l y + tot [(x, n)] y) % c := num_foldM _ _ _
  rw [tot_num w.nd, h, tot_app, tot_num v.nd]
theorem drop_put {l : Tb} {x : Str} (n : Int) : dropT (putT l x n) x = dropT l x := by
  unfold dropT putT
  cases has l x with
  | true =>
    rw [if_pos rfl, List.filter_map]
    have e : ((fun p : Str × Int => decide (p.1 ≠ x)) ∘ fun p : Str × Int => if p.1 = x then (p.1, n) else p) = fun p => decide (p.1 ≠ x) := by
      funext p
      by_cases h : p.1 = x
      · simp [h]
      · simp [h]
    rw [e]
    conv => rhs; rw [← List.map_id (l.filter fun p => decide (p.1 ≠ x))]
    apply List.map_congr_left
    intro p hp
    have h := (List.mem_filter.mp hp).2
    have h2 : p.1 ≠ x := by simpa using h
    rw [if_neg h2]
    rfl
  | false =>
    rw [if_neg Bool.false_ne_true, List.filter_append]
    simp
theorem val_put {l : Tb} {x : Str} (n : Int) : valV (kv (putT l x n)) (Sum.inr x : Key) = some (.int n) := by
  have h : has (putT l x n) x = true := by
    rw [has_iff, putT_keys]
    cases e : has l x with
    | true => exact has_iff.mp e
    | false => exact List.mem_append_right _ (List.mem_singleton.mpr rfl)
  rw [valV_yes h, num_put _ _]
section
variable {P : Program} {w : World} {K : PySem.W.Frag} {mg : Str → Option Value} {base : Heap}
def tClP : TE := fun σ H Q => ∃ (x0 x1 x2 x4 x5 x6 : Option V) (d : Addr) (l : Tb), σ = [x0, x1, x2, some (.ref d), x4, x5, x6] ∧ H d = some (.dK (kv l)) ∧ Nd l ∧ l.length ≤ 1000000 ∧
  ∀ H' r, Same H H' → H r = none → H' r = some (.dK (kv (cleanT l))) → Q (.ref r) H'
def spLProd : Sp := fun vs H Q _ => ∃ (d1 d2 : Addr) (c : Int) (m1 k1 m2 k2 : Nat) (l1 l2 : Tb), vs = [.int c, .ref d1, .ref d2] ∧ 0 < c ∧ c ≤ 7 ∧ d1 ≠ d2 ∧ H d1 = some (.dK (kv l1)) ∧ H d2 = some (.dK (kv l2)) ∧ VT c m1 k1 l1 ∧ VT c m2 k2 l2 ∧ m1 ≤ 1000 ∧ m2 ≤ 1000 ∧ k1 * k2 ≤ 900000 ∧
  ∀ H' D, Same H H' → H D = none → H' D = some (.dK (kv (prodC c l1 l2))) → Q (.ref D) H'
abbrev nLProd : List Str := ["_law_clock_here", "_law_one", "_law_other", "_law_found", "_law_front", "_law_back", "_law_word_here"]
theorem sc_lprod : FnScope nLProd ["_law_clock_here", "_law_one", "_law_other"] (defScope s__law_product) := ⟨rfl, rfl, rfl, by decide +kernel, rfl, by decide +kernel, by decide +kernel⟩
theorem ok_lprod (T : Top K mg) : Ok P w K mg base 2 "_law_product" ["_law_clock_here", "_law_one", "_law_other"] spLProd := by
  obtain ⟨fd, F⟩ := fn__law_product T
  refine ⟨⟨fd, ?_, F.bindsN fun _ _ _ _ _ _ us hl => match us, hl with | [_, _, _], _ => rfl⟩, g__law_product T, F.kp⟩
  refine F.ok sc_lprod (fun vs H Q E h => ?_) (fun cdv A outer s H vs Q E hr h => ?_)
  · obtain ⟨d1, d2, c, m1, k1, m2, k2, l1, l2, rfl, _⟩ := h
    rfl
  · obtain ⟨d1, d2, c, m1, k1, m2, k2, l1, l2, rfl, hc, hc7, n12, h1, h2, v1, v2, hm1, hm2, hk, q⟩ := h
    have nd := sc_lprod.nd
    have hu := hu_of hr
    have hs : sizeLine = 16777216 := sizeLine_eq
    have hkk : l1.length * l2.length ≤ 900000 := Nat.le_trans (Nat.mul_le_mul v1.ln v2.ln) hk
    refine ⟨_, PSs.nox (pss_cons (ps_set (i := 3) nd rfl (Or.inr rfl) pe_dnewK)
      (pss_cons (ps_lock (ps_for PassesOwn.never rfl (pi_keys (pv 1)) (pg_name (i := 4) nd rfl (Or.inl rfl))
        (pss_one (ps_lock (ps_for PassesOwn.never rfl (pi_keys (pv 2)) (pg_name (i := 5) nd rfl (Or.inl rfl))
          (pss_one (ps_dput hu (pv 3) (pe_op op_add_str (pv 4) (pv 5)) (pe_op op_mod (pe_callTy call_int1 (by rfl) (f_int T) boot_int (pa_cons (pe_op op_add (pe_dget2 hu (pv 3) (pe_op op_add_str (pv 4) (pv 5)) pe_int ⟨rfl, rfl, rfl, rfl⟩) (pe_op op_mul (pe_dget hu (pv 1) (pv 4) (fun _ _ => rfl)) (pe_dget hu (pv 2) (pv 5) (fun _ _ => rfl)))) pa_nil)) (pv 0)) rfl)))))))
      (pss_one (ps_ret (PE.weak (t' := tClP) (pe_callTy (call_dictP rfl) (by rfl) (f_dict T) (by decide +kernel) (pa_cons (pe_lock (pe_lc (own := [("_law_word_here", 6)]) (g := gName 6) rfl nd (pi_keys (pv 3)) (blkOk_by (N := nLProd) (sc := defScope s__law_product) (by decide +kernel)) (fun _ _ _ _ _ => pg_name (i := 6) nd rfl (Or.inl rfl))
        (fun _ _ _ _ _ => by exact pts_one (pt_cmpR op_ne (pe_dget hu (pv 3) (pv 6) (fun _ _ => rfl)) pe_int (nomark _))) (fun _ _ _ _ _ => by exact (pe_tup (pa_cons (pv 6) (pa_cons (pe_dget hu (pv 3) (pv 6) (fun _ _ => rfl)) pa_nil)))))) pa_nil)) ?wC))))), ?_⟩
    case wC =>
      rintro σ H Q ⟨x0, x1, x2, x4, x5, x6, d, l, rfl, ed, hnd, hll, q⟩
      have hs : sizeLine = 16777216 := sizeLine_eq
      refine ⟨d, _, ed, trivial, fun od => ?_⟩
      refine ⟨_, rfl, d, od, rfl, .inl ⟨_, upd_same, fun D hD => ?_⟩⟩
      have nD : D ≠ d := fun e => by
        rw [e, upd_same] at hD
        cases hD
      have hD0 : H D = none := by
        rw [upd_ne nD] at hD
        exact hD
      refine lc_it walk_keys (fun i H' => ∃ ps : List Addr, H' D = some (.lst (ps.map V.ref)) ∧ Paired (fun p (q : Str × Int) => H' p = some (.tup [.str q.1, .int q.2])) ps (cleanT (l.take i)) ∧ But d H H' ∧ H' d = some (.frz od (.dK (kv l))))
        ⟨[], upd_same, .nil, (fun b' o y n' => by
          rw [upd_ne (ne_of_none y hD0), upd_ne n']
          exact y), (by
          rw [upd_ne nD.symm]
          exact upd_same)⟩ (fun i H' _ hP => hP.choose_spec.2.2.2) ?_ ?_
      · rintro j x Ha Hb hj ⟨ps, r1, r2, r3, r4⟩ ⟨rfl, kk, vv, ee, rfl⟩
        obtain ⟨p', ep, rfl, rfl⟩ := kv_at ee
        rw [kv_len] at hj
        have et := clean_take ep
        have hval : valV (kv l) (Sum.inr p'.1 : Key) = some (.int p'.2) := by rw [valV_yes (has_of ep), num_of hnd ep]
        refine ⟨rfl, ?_⟩
        refine ⟨_, rfl, _, rfl, d, .int p'.2, rfl, .inl ⟨kv l, Sum.inr p'.1, .inr ⟨od, r4⟩, rfl, hval.symm⟩, rfl, _, rfl, ?_⟩
        refine ite2 (fun hz => ?_) (fun hz => ?_)
        · have hz' : p'.2 ≠ 0 := fun e => by
            rw [e] at hz
            exact absurd hz (by decide)
          rw [if_pos hz'] at et
          refine ⟨_, rfl, _, rfl, _, rfl, d, .int p'.2, rfl, .inl ⟨kv l, Sum.inr p'.1, .inr ⟨od, r4⟩, rfl, hval.symm⟩, ?_⟩
          refine ⟨by show 2 ≤ sizeLine; omega, fun t ht => ?_⟩
          have st := same_upd (o := .tup [.str p'.1, .int p'.2]) ht
          have eD7 := st _ _ r1
          have hlen := r2.length
          have hlt : (cleanT (l.take j)).length ≤ j := Nat.le_trans (List.length_filter_le _ _) (by rw [List.length_take]; omega)
          refine ⟨_, eD7, by rw [List.length_map]; omega, ps ++ [t], by rw [upd_same, List.map_append]; rfl, ?_, ?_, ?_⟩
          · rw [et]
            refine Paired.snoc (Paired.mapP r2 fun y q e => ?_) ?_
            · rw [upd_ne (ne_of (st _ _ e) eD7 (by intro y; cases y))]
              exact st _ _ e
            · rw [upd_ne (ne_of_none r1 ht).symm]
              exact upd_same
          · intro b' o y n'
            rw [upd_ne (ne_of_none y hD0)]
            exact st _ _ (r3 b' o y n')
          · rw [upd_ne nD.symm]
            exact st _ _ r4
        · have hz' : ¬ p'.2 ≠ 0 := fun e => hz (by
            show (!decide (V.int p'.2 = V.int 0)) = true
            rw [decide_eq_false (fun y => e (by injection y))]
            rfl)
          rw [if_neg hz'] at et
          exact ⟨ps, r1, by rw [et]; exact r2, r3, r4⟩
      rintro Gc ⟨ps, r1, r2, r3, r4⟩
      rw [kv_len, List.take_length] at r2
      have sb := unlockT ed r3
      refine ⟨r4, D, ps, kv (cleanT l), rfl, SqL.of (by rw [upd_ne nD]; exact r1), pairs_kv (Paired.mapP r2 fun y q e => ?_), fun u nu => ?_⟩
      · rw [upd_ne (fun y' => by rw [y', r4] at e; cases e)]
        exact e
      have su := sb.trans (same_upd (o := .dK (mergeK [] (kv (cleanT l)))) nu)
      rw [merge_kv (clean_nd hnd)] at su ⊢
      exact q _ u su (sb.free nu) upd_same
    refine fun F0 hF => ?_
    have n1F : d1 ≠ F0 := ne_of_none h1 hF
    have n2F : d2 ≠ F0 := ne_of_none h2 hF
    refine ⟨d1, .dK (kv l1), by rw [upd_ne n1F]; exact h1, trivial, fun od => ?_⟩
    refine ⟨_, rfl, d1, od, rfl, .inl ⟨kv l1, upd_same, ?_⟩⟩
    refine for_it walk_keys (fun i σ H' => (∃ v u v2, σ = [some (.int c), some (.ref d1), some (.ref d2), some (.ref F0), v, u, v2]) ∧ H' F0 = some (.dK (kv (addC c (prs (l1.take i) l2) []))) ∧ But d1 H H' ∧ H' d1 = some (.frz od (.dK (kv l1))))
      ⟨⟨none, none, none, rfl⟩, ?_, ?_, upd_same⟩ (fun i σ H' _ hP => hP.2.2.2) ?_ ?_
    · rw [upd_ne n1F.symm, upd_same]
      rfl
    · intro b o e n
      rw [upd_ne n, upd_ne (ne_of_none e hF)]
      exact e
    · rintro i x σ H1 H2 hi ⟨⟨v, u, v2', rfl⟩, p1, p2, p3⟩ ⟨rfl, kk, vv, ee, rfl⟩
      obtain ⟨p, ep, rfl, rfl⟩ := kv_at ee
      have hp : p ∈ l1 := List.mem_of_getElem? ep
      have hil : i < l1.length := (List.getElem?_eq_some_iff.mp ep).1
      have hn1 := v1.nu p hp
      have hval1 : valV (kv l1) (Sum.inr p.1 : Key) = some (.int p.2) := by rw [valV_yes (has_of ep), num_of v1.nd ep]
      have e2 := p2 _ _ h2 n12.symm
      have nF2 : d2 ≠ F0 := n2F
      refine ⟨d2, .dK (kv l2), e2, trivial, fun od2 => ?_⟩
      refine ⟨_, rfl, d2, od2, rfl, .inl ⟨kv l2, upd_same, ?_⟩⟩
      refine for_it walk_keys (fun j σ H' => (∃ v u, σ = [some (.int c), some (.ref d1), some (.ref d2), some (.ref F0), some (.str p.1), v, u]) ∧ H' F0 = some (.dK (kv (addC c ((fwd p l2).take j) (addC c (prs (l1.take i) l2) [])))) ∧ (∀ b o, H2 b = some o → b ≠ d2 → b ≠ F0 → H' b = some o) ∧ H' d2 = some (.frz od2 (.dK (kv l2))))
        ⟨⟨_, _, rfl⟩, ?_, ?_, upd_same⟩ (fun i σ H' _ hP => hP.2.2.2) ?_ ?_
      · rw [upd_ne n2F.symm]
        exact p1
      · intro b o e n _
        rw [upd_ne n]
        exact e
      · rintro j x σ H3 H4 hj ⟨⟨v3, u3, rfl⟩, g1, g2, g3⟩ ⟨rfl, kk2, vv2, ee2, rfl⟩
        obtain ⟨r, er, rfl, rfl⟩ := kv_at ee2
        have hr' : r ∈ l2 := List.mem_of_getElem? er
        have hjl : j < l2.length := (List.getElem?_eq_some_iff.mp er).1
        have hn2 := v2.nu r hr'
        have hw1 := (v1.wd p hp).2
        have hw2 := (v2.wd r hr').2
        have hval2 : valV (kv l2) (Sum.inr r.1 : Key) = some (.int r.2) := by rw [valV_yes (has_of er), num_of v2.nd er]
        have e1' : H4 d1 = some (.frz od (.dK (kv l1))) := g2 _ _ p3 n12 n1F
        refine ⟨_, rfl, F0, rfl, .inl ⟨_, .inl g1⟩, _, rfl, _, rfl, _, _, rfl, rfl, by show p.1.length + r.1.length ≤ sizeLine; omega, _, DGet.k (k := Sum.inr (p.1 ++ r.1)) g1, ?_⟩
        rw [num_eq]
        refine ⟨_, rfl, _, rfl, d1, .int p.2, rfl, .inl ⟨kv l1, Sum.inr p.1, .inr ⟨od, e1'⟩, rfl, hval1.symm⟩, _, rfl, _, rfl, d2, .int r.2, rfl, .inl ⟨kv l2, Sum.inr r.1, .inr ⟨od2, g3⟩, rfl, hval2.symm⟩, _, _, rfl, rfl, .inr ⟨by omega, by omega⟩, _, _, rfl, rfl, ?_⟩
        refine .inl ⟨_, rfl, _, rfl, _, _, rfl, rfl, hc, ?_⟩
        refine ⟨_, rfl, _, rfl, _, rfl, _, _, rfl, rfl, by show p.1.length + r.1.length ≤ sizeLine; omega, F0, _, rfl, DPut.k (k := Sum.inr (p.1 ++ r.1)) g1 ?_, ?_⟩
        · have b1 := addC_len c ((fwd p l2).take j) (addC c (prs (l1.take i) l2) [])
          have b2 := addC_len c (prs (l1.take i) l2) []
          rw [prs_len, List.length_take] at b2
          rw [List.length_take, fwd_len] at b1
          have b4 : ([] : Tb).length = 0 := rfl
          have b3 : (min i l1.length + 1) * l2.length ≤ l1.length * l2.length := Nat.mul_le_mul (by omega) (Nat.le_refl _)
          rw [Nat.add_mul, Nat.one_mul] at b3
          rw [kv_len]
          omega
        · refine ⟨⟨_, _, rfl⟩, ?_, ?_, ?_⟩
          · rw [upd_same, putK_kv, addC_take (fwd_get er)]
          · intro b o z n nF
            rw [upd_ne nF]
            exact g2 b o z n nF
          · rw [upd_ne n2F]
            exact g3
      · rintro σ H' ⟨⟨v3, u3, rfl⟩, g1, g2, g3⟩
        rw [kv_len, List.take_of_length_le (by rw [fwd_len]; exact Nat.le_refl _), ← addC_app, ← prs_take ep] at g1
        refine ⟨g3, ⟨_, _, _, rfl⟩, by rw [upd_ne n2F.symm]; exact g1, fun b o z n => ?_, ?_⟩
        · by_cases nb : b = d2
          · rw [nb, upd_same, ← h2, ← nb, z]
          · rw [upd_ne nb]
            exact g2 b o (p2 b o z n) nb (ne_of_none z hF)
        · rw [upd_ne n12]
          exact g2 _ _ p3 n12 n1F
    · rintro σ H' ⟨⟨v, u, v3, rfl⟩, p1, p2, p3⟩
      rw [kv_len, List.take_length] at p1
      refine ⟨p3, ?_⟩
      have base' := unlockT h1 p2
      have ln := addC_len c (prs l1 l2) []
      rw [prs_len] at ln
      have b4 : ([] : Tb).length = 0 := rfl
      refine ⟨_, _, _, _, _, _, F0, _, rfl, by rw [upd_ne n1F.symm]; exact p1, addC_nd c _ _ (show Nd [] from List.nodup_nil), by omega, fun H2 D s2 nD eD => ?_⟩
      exact q H2 D (base'.trans s2) (base'.free nD) eD
def spSize : Sp := fun vs H Q _ => ∃ (d : Addr) (l : Tb), vs = [.ref d] ∧ H d = some (.dK (kv l)) ∧ (∀ p ∈ l, p.1.length ≤ 1000) ∧ l.length ≤ 1000000 ∧ ∀ H' m, Same H H' → LongOf l m → Q (.int m) H'
abbrev nSize : List Str := ["_law_sparse_here", "_law_word_here"]
theorem sc_lsize : FnScope nSize ["_law_sparse_here"] (defScope s__law_size) := ⟨rfl, rfl, rfl, by decide +kernel, rfl, by decide +kernel, by decide +kernel⟩
theorem ok_lsize (T : Top K mg) : Ok P w K mg base 1 "_law_size" ["_law_sparse_here"] spSize := by
  obtain ⟨fd, F⟩ := fn__law_size T
  refine ⟨⟨fd, ?_, F.bindsN fun _ _ _ _ _ _ us hl => match us, hl with | [_], _ => rfl⟩, g__law_size T, F.kp⟩
  refine F.ok sc_lsize (fun vs H Q E h => ?_) (fun cdv A outer s H vs Q E hr h => ?_)
  · obtain ⟨d, l, rfl, _⟩ := h
    rfl
  · obtain ⟨d, l, rfl, ed, hw, hl, q⟩ := h
    have nd := sc_lsize.nd
    have hs : sizeLine = 16777216 := sizeLine_eq
    refine ⟨_, PSs.nox (pss_one (ps_ret (pe_callB (cr_max rfl) (by rfl) (f_max T) (by decide +kernel) (pa_cons (pe_op op_cat (pe_lst (pa_cons (pe_un un_neg pe_int) pa_nil)) (pe_lock (pe_lc (own := [("_law_word_here", 1)]) (g := gName 1) (tt := tYes) rfl nd (pi_keys (pv 0)) (blkOk_by (N := nSize) (sc := defScope s__law_size) (by decide +kernel))
      (fun _ _ _ _ _ => pg_name (i := 1) nd rfl (Or.inl rfl)) (fun _ _ _ _ _ => pts_nil) (fun _ _ _ _ _ => pe_callB call_len_str (by rfl) (f_len T) PySem.boot_len (pa_cons (pv 1) pa_nil))))) pa_nil)))), ?_⟩
    refine ⟨_, rfl, by show 1 ≤ sizeLine; omega, fun L0 nL => ?_⟩
    have s0 := same_upd (o := .lst [.int (-1)]) nL
    have eL0 : (upd H L0 (.lst [.int (-1)])) L0 = some (.lst [.int (-1)]) := upd_same
    have ed1 := s0 _ _ ed
    generalize upd H L0 (.lst [.int (-1)]) = H1 at s0 eL0 ed1 ⊢
    refine ⟨d, _, ed1, trivial, fun od => ?_⟩
    refine ⟨_, rfl, d, od, rfl, .inl ⟨_, upd_same, fun D hD => ?_⟩⟩
    have nD : D ≠ d := fun z => by
      rw [z, upd_same] at hD
      cases hD
    have hD0 : H1 D = none := by
      rw [upd_ne nD] at hD
      exact hD
    refine lc_it walk_keys (fun i H' => H' D = some (.lst (((l.take i).map fun p => (p.1.length : Int)).map V.int)) ∧ But d H1 H' ∧ H' d = some (.frz od (.dK (kv l)))) ⟨upd_same, ?_, ?_⟩ (fun i H' _ hP => hP.2.2) ?_ ?_
    · intro b o z n
      rw [upd_ne (ne_of_none z hD0), upd_ne n]
      exact z
    · rw [upd_ne nD.symm]
      exact upd_same
    · rintro j x Ha Hb hj ⟨r1, r2, r3⟩ ⟨rfl, kk, vv, ee, rfl⟩
      obtain ⟨p, ep, rfl, rfl⟩ := kv_at ee
      have hpl := hw p (List.mem_of_getElem? ep)
      rw [kv_len] at hj
      refine ⟨rfl, ?_⟩
      refine ⟨_, rfl, p.1, rfl, by omega, ?_⟩
      refine ⟨_, r1, ?_, ?_, ?_, ?_⟩
      · rw [List.length_map, List.length_map, List.length_take]
        omega
      · rw [upd_same, List.take_add_one, ep, List.map_append, List.map_append]
        rfl
      · intro b o z n
        rw [upd_ne (ne_of_none z hD0)]
        exact r2 b o z n
      · rw [upd_ne nD.symm]
        exact r3
    rintro H2 ⟨r1, r2, r3⟩
    rw [kv_len, List.take_length] at r1
    have sb := unlockT ed1 r2
    have eD2 : (upd H2 d (.dK (kv l))) D = some (.lst ((l.map fun p => (p.1.length : Int)).map V.int)) := by rw [upd_ne nD]; exact r1
    have eL2 := sb _ _ eL0
    refine ⟨r3, L0, D, _, _, rfl, rfl, eL2, eD2, by show 1 + _ ≤ sizeLine; rw [List.length_map, List.length_map]; omega, fun L2 nL2 => ?_⟩
    refine ⟨L2, -1 :: l.map (fun p => (p.1.length : Int)), rfl, SqL.of upd_same, by simp, fun m hm hle => ?_⟩
    refine q _ m ((s0.trans sb).trans (same_upd nL2)) ⟨hle _ List.mem_cons_self, fun p hp => hle _ (List.mem_cons_of_mem _ (List.mem_map.mpr ⟨p, hp, rfl⟩)), ?_⟩
    rcases List.mem_cons.mp hm with rfl | hm
    · exact .inl rfl
    · obtain ⟨p, hp, e⟩ := List.mem_map.mp hm
      exact .inr ⟨p, hp, e⟩
def spLSum : Sp := fun vs H Q _ => ∃ (d1 d2 : Addr) (c : Int) (l1 l2 : Tb), vs = [.int c, .ref d1, .ref d2] ∧ 0 < c ∧ c ≤ 7 ∧ H d1 = some (.dK (kv l1)) ∧ H d2 = some (.dK (kv l2)) ∧ Nd l2 ∧ (∀ p ∈ l2, 0 ≤ p.2 ∧ p.2 < c) ∧ l1.length ≤ 1000 ∧ l2.length ≤ 1000 ∧
  ∀ H' D, Same H H' → H D = none → H' D = some (.dK (kv (sumC c l1 l2))) → Q (.ref D) H'
abbrev nLSum : List Str := ["_law_clock_here", "_law_one", "_law_other", "_law_found", "_law_word_here", "_law_total"]
theorem sc_lsum : FnScope nLSum ["_law_clock_here", "_law_one", "_law_other"] (defScope s__law_sum) := ⟨rfl, rfl, rfl, by decide +kernel, rfl, by decide +kernel, by decide +kernel⟩
theorem ok_lsum (T : Top K mg) : Ok P w K mg base 1 "_law_sum" ["_law_clock_here", "_law_one", "_law_other"] spLSum := by
  obtain ⟨fd, F⟩ := fn__law_sum T
  refine ⟨⟨fd, ?_, F.bindsN fun _ _ _ _ _ _ us hl => match us, hl with | [_, _, _], _ => rfl⟩, g__law_sum T, F.kp⟩
  refine F.ok sc_lsum (fun vs H Q E h => ?_) (fun cdv A outer s H vs Q E hr h => ?_)
  · obtain ⟨d1, d2, c, l1, l2, rfl, _⟩ := h
    rfl
  · obtain ⟨d1, d2, c, l1, l2, rfl, hc, hc7, h1, h2, hnd, hnu, hl1, hl2, q⟩ := h
    have nd := sc_lsum.nd
    have hu := hu_of hr
    have hs : sizeLine = 16777216 := sizeLine_eq
    refine ⟨_, PSs.nox (pss_cons (ps_set (i := 3) nd rfl (Or.inl rfl) (pe_callTy call_dictD (by rfl) (f_dict T) (by decide +kernel) (pa_cons (pv 1) pa_nil)))
      (pss_cons (ps_lock (ps_for PassesOwn.never rfl (pi_keys (pv 2)) (pg_name (i := 4) nd rfl (Or.inl rfl))
        (pss_cons (ps_set (i := 5) nd rfl (Or.inl rfl) (pe_op op_mod (pe_callTy call_int1 (by rfl) (f_int T) boot_int (pa_cons (pe_op op_add (pe_dget2 hu (pv 3) (pv 4) pe_int ⟨rfl, rfl, rfl, rfl⟩) (pe_dget hu (pv 2) (pv 4) (fun _ _ => rfl))) pa_nil)) (pv 0)))
        (pss_cons (ps_dput hu (pv 3) (pv 4) (pv 5) rfl)
        (pss_one (ps_if (pt_cmpR op_eq (pv 5) pe_int (nomark _)) (pss_one (ps_expr (pe_dpop1 (pv 3) (pv 4) ⟨rfl, rfl, rfl, rfl⟩))) pss_nil)))))) 
      (pss_one (ps_ret (pv 3))))), ?_⟩
    refine ⟨_, rfl, d1, kv l1, rfl, .inl h1, fun F0 hF => ?_⟩
    have n2F : d2 ≠ F0 := ne_of_none h2 hF
    refine ⟨d2, .dK (kv l2), by rw [upd_ne n2F]; exact h2, trivial, fun od => ?_⟩
    refine ⟨_, rfl, d2, od, rfl, .inl ⟨kv l2, upd_same, ?_⟩⟩
    refine for_it walk_keys (fun i σ H' => (∃ v u, σ = [some (.int c), some (.ref d1), some (.ref d2), some (.ref F0), v, u]) ∧ H' F0 = some (.dK (kv (sumC c l1 (l2.take i)))) ∧ But d2 H H' ∧ H' d2 = some (.frz od (.dK (kv l2))))
      ⟨⟨none, none, rfl⟩, ?_, ?_, upd_same⟩ (fun i σ H' _ hP => hP.2.2.2) ?_ ?_
    · rw [upd_ne n2F.symm, upd_same]
      rfl
    · intro b o e n
      rw [upd_ne n, upd_ne (ne_of_none e hF)]
      exact e
    · rintro i x σ H1 H2 hi ⟨⟨v, u, rfl⟩, p1, p2, p3⟩ ⟨rfl, kk, vv, ee, rfl⟩
      obtain ⟨p, ep, rfl, rfl⟩ := kv_at ee
      have hn := hnu p (List.mem_of_getElem? ep)
      have hval : valV (kv l2) (Sum.inr p.1 : Key) = some (.int p.2) := by rw [valV_yes (has_of ep), num_of hnd ep]
      have ln := sumC_len (c := c) (l2.take i) l1
      rw [List.length_take] at ln
      refine ⟨_, rfl, F0, rfl, .inl ⟨_, .inl p1⟩, _, rfl, _, DGet.k (k := Sum.inr p.1) p1, ?_⟩
      rw [num_eq]
      refine ⟨_, rfl, _, rfl, d2, .int p.2, rfl, .inl ⟨kv l2, Sum.inr p.1, .inr ⟨od, p3⟩, rfl, hval.symm⟩, _, _, rfl, rfl, ?_⟩
      refine .inl ⟨_, rfl, _, rfl, _, _, rfl, rfl, hc, ?_⟩
      refine ⟨_, rfl, _, rfl, _, rfl, F0, _, rfl, DPut.k (k := Sum.inr p.1) p1 (by rw [kv_len]; omega), ?_⟩
      rw [putK_kv]
      refine ⟨_, rfl, rfl, _, rfl, ?_⟩
      have et := sumC_take (c := c) (l1 := l1) ep
      unfold putM at et
      by_cases h0 : (num (sumC c l1 (l2.take i)) p.1 + p.2) % c = 0
      · rw [if_pos h0] at et
        rw [decide_eq_true (show V.int ((num (sumC c l1 (l2.take i)) p.1 + p.2) % c) = V.int 0 by rw [h0])]
        refine iteT ?_
        refine ⟨_, rfl, F0, rfl, .inl ⟨_, .inl upd_same⟩, _, rfl, _, Sum.inr p.1, _, upd_same, rfl, val_put _, ?_⟩
        rw [dropK_kv, drop_put, upd_upd]
        refine ⟨⟨_, _, rfl⟩, ?_, ?_, ?_⟩
        · rw [upd_same, et]
        · intro b o z n
          rw [upd_ne (ne_of_none z hF)]
          exact p2 b o z n
        · rw [upd_ne n2F]
          exact p3
      · rw [if_neg h0] at et
        rw [decide_eq_false (show ¬ V.int ((num (sumC c l1 (l2.take i)) p.1 + p.2) % c) = V.int 0 from fun z => h0 (by injection z))]
        refine iteF ?_
        refine ⟨⟨_, _, rfl⟩, ?_, ?_, ?_⟩
        · rw [upd_same, et]
        · intro b o z n
          rw [upd_ne (ne_of_none z hF)]
          exact p2 b o z n
        · rw [upd_ne n2F]
          exact p3
    · rintro σ H' ⟨⟨v, u, rfl⟩, p1, p2, p3⟩
      rw [kv_len, List.take_length] at p1
      refine ⟨p3, ?_⟩
      refine ⟨_, rfl, q _ F0 (unlockT h2 p2) hF ?_⟩
      rw [upd_ne n2F.symm]
      exact p1
end
end Fp

set_option Elab.async false
set_option linter.all false
set_option maxRecDepth 100000
set_option maxHeartbeats 4000000
/-! the law's row: how many, room, told -/
namespace Fp
open PySem PySem.Spec PyProof.Rows L2
def sz (l : Tb) : Nat := max 1 l.length
abbrev Rs := List (Addr × Addr × Tb)
def qsOf (rs : Rs) : List (Addr × Nat × Tb) := rs.map fun r => (r.1, sz r.2.2, r.2.2)
def manyR (rs : Rs) : Nat := pkN (qsOf rs)
theorem sz_pos (l : Tb) : 1 ≤ sz l := by unfold sz; omega
theorem pkN_app (a b : List (Addr × Nat × Tb)) : pkN (a ++ b) = pkN a * pkN b := by
  have key : ∀ (r : List (Addr × Nat × Tb)) (x : Nat), r.foldl (fun x q => x * q.2.1) x = x * r.foldl (fun x q => x * q.2.1) 1 := by
    intro r
    induction r with
    | nil => intro x; show x = x * 1; omega
    | cons q r ih =>
      intro x
      rw [List.foldl_cons, List.foldl_cons, ih, ih (1 * q.2.1), Nat.one_mul, Nat.mul_assoc]
  unfold pkN
  rw [List.foldl_append, key]
theorem manyR_app (a b : Rs) : manyR (a ++ b) = manyR a * manyR b := by
  unfold manyR qsOf
  rw [List.map_append, pkN_app]
theorem manyR_one (r : Addr × Addr × Tb) : manyR [r] = sz r.2.2 := by
  show 1 * sz r.2.2 = _
  omega
theorem manyR_nil : manyR [] = 1 := rfl
theorem manyR_pos (rs : Rs) : 1 ≤ manyR rs := by
  have h := pkN_le (qs := qsOf rs) (fun q hq => by
    obtain ⟨r, _, rfl⟩ := List.mem_map.mp hq
    exact sz_pos _) 0
  rw [List.take_zero] at h
  exact h
theorem rs_split {rs : Rs} {i : Nat} {r : Addr × Addr × Tb} (e : rs[i]? = some r) : rs = rs.take i ++ [r] ++ rs.drop (i + 1) := by
  obtain ⟨h, e2⟩ := List.getElem?_eq_some_iff.mp e
  rw [List.append_assoc, List.singleton_append, ← e2, List.getElem_cons_drop, List.take_append_drop]
theorem many_split {rs : Rs} {i : Nat} {r : Addr × Addr × Tb} (e : rs[i]? = some r) : manyR rs = manyR (rs.take i) * sz r.2.2 * manyR (rs.drop (i + 1)) := by
  conv => lhs; rw [rs_split e]
  rw [manyR_app, manyR_app, manyR_one]
theorem sz_le_many {rs : Rs} {i : Nat} {r : Addr × Addr × Tb} (e : rs[i]? = some r) : sz r.2.2 ≤ manyR rs := by
  rw [many_split e]
  have h1 := manyR_pos (rs.take i)
  have h2 := manyR_pos (rs.drop (i + 1))
  have h3 : 1 * sz r.2.2 ≤ manyR (rs.take i) * sz r.2.2 := Nat.mul_le_mul_right _ h1
  have h4 : manyR (rs.take i) * sz r.2.2 * 1 ≤ manyR (rs.take i) * sz r.2.2 * manyR (rs.drop (i + 1)) := Nat.mul_le_mul_left _ h2
  omega
/-- the law's row -/
structure Rw (K : PySem.W.Frag) (H : Hp) (c : Int) (R : Addr) (rs : Rs) : Prop where
  row : H R = some (.lst (rs.map fun r => V.ref r.2.1))
  bag : ∀ r ∈ rs, BagAt K H r.1 c (canon r.2.2)
  dic : ∀ r ∈ rs, H r.2.1 = some (.dK (kv r.2.2))
  vt : ∀ r ∈ rs, VT c 12 (sz r.2.2) r.2.2
  nd : (rs.map (·.2.1)).Nodup
theorem Rw.ext {K : PySem.W.Frag} {H H' : Hp} {c : Int} {R : Addr} {rs : Rs} (h : Rw K H c R rs) (s : LamX.ExtN H H') : Rw K H' c R rs :=
  ⟨s _ _ h.row (by intro ps z; cases z), fun r hr => (h.bag r hr).ext s, fun r hr => s _ _ (h.dic r hr) (by intro ps z; cases z), h.vt, h.nd⟩
theorem Rw.same {K : PySem.W.Frag} {H H' : Hp} {c : Int} {R : Addr} {rs : Rs} (h : Rw K H c R rs) (s : Same H H') : Rw K H' c R rs := h.ext (LamX.ExtN.of s)
theorem all_rep (n : Nat) : (List.replicate n true).all id = true := by
  induction n with
  | zero => rfl
  | succ n ih => rw [List.replicate_succ, List.all_cons, ih]; rfl
theorem rep_succ (i : Nat) : ((List.replicate (i + 1) true).map V.bl) = (List.replicate i true).map V.bl ++ [V.bl true] := by
  rw [List.replicate_succ', List.map_append]
  rfl
theorem tabs_but {T : List (Addr × Str)} {H H' : Hp} {h : Addr} (t : LamX.Tabs T H) (hl : ∃ xs, H h = some (.lst xs)) (k : But h H H') : LamX.Tabs T H' := fun p hp => by
  obtain ⟨xs, hx⟩ := hl
  obtain ⟨ps, h1, h2, h3⟩ := t p hp
  refine ⟨ps, k _ _ h1 (ne_of h1 hx (by intro y; cases y)), h2, fun pos cv hc => ?_⟩
  obtain ⟨c, e1, e2⟩ := h3 pos cv hc
  exact ⟨c, e1, k _ _ e2 (ne_of e2 hx (by intro y; cases y))⟩
theorem pc_is {X : Cx} {p pos : Pos} {e1 e2 e3 : Expr} {t : TA} (T : Top X.K X.mg) (TB : LamX.TabB X.base X.mg (He.cT X.K dPr).1 (He.cT X.K dPr).2) (hG : Gd X.A) (hr : Room 3 X.A) (ha : PA X [e1, e2, e3] t) (hg : Gl X "_law_is" := by rfl)
    (he : starEach [e1, e2, e3] X.env = (false, eval e1 X.env) :: starEach [e2, e3] X.env := by rfl) (hpl : (backTo pos (starEach [e2, e3] X.env)).any (·.1) = false := by rfl) : PE X (.Call (.Name "_law_is" p) [e1, e2, e3] [] pos) (tCall (spIs X.K) [] E0 t) := by
  obtain ⟨fd, F, b, k⟩ := ok_is (P := X.prog) (w := X.w) (base := X.base) T TB
  exact pe_callG F hG hr hg (g__law_is T) k b ha (by decide) he hpl
theorem qs_get {rs : Rs} {i : Nat} {r : Addr × Addr × Tb} (e : rs[i]? = some r) : (qsOf rs)[i]? = some (r.1, sz r.2.2, r.2.2) := by
  unfold qsOf
  rw [List.getElem?_map, e]
  rfl
section
variable {P : Program} {w : World} {K : PySem.W.Frag} {mg : Str → Option Value} {base : Heap}
def spMany (K : PySem.W.Frag) : Sp := fun vs H Q _ => ∃ (R : Addr) (c : Int) (rs : Rs), vs = [.ref R] ∧ Rw K H c R rs ∧ manyR rs ≤ 1000 ∧ Q (.int (manyR rs : Nat)) H
abbrev nMany : List Str := ["_law_row", "_law_found", "_law_sparse_here"]
theorem sc_many : FnScope nMany ["_law_row"] (defScope s__law_many) := ⟨rfl, rfl, rfl, by decide +kernel, rfl, by decide +kernel, by decide +kernel⟩
theorem ok_many (T : Top K mg) : Ok P w K mg base 1 "_law_many" ["_law_row"] (spMany K) := by
  obtain ⟨fd, F⟩ := fn__law_many T
  refine ⟨⟨fd, ?_, F.bindsN fun _ _ _ _ _ _ us hl => match us, hl with | [_], _ => rfl⟩, g__law_many T, F.kp⟩
  refine F.ok sc_many (fun vs H Q E h => ?_) (fun cdv A outer s H vs Q E hr h => ?_)
  · obtain ⟨R, c, rs, rfl, _⟩ := h
    rfl
  · obtain ⟨R, c, rs, rfl, rw_, hm, q⟩ := h
    have nd := sc_many.nd
    refine ⟨_, PSs.nox (pss_cons (ps_set (i := 1) nd rfl (by first | exact Or.inl rfl | exact Or.inr rfl) pe_int)
      (pss_cons (ps_for PassesOwn.never rfl (pi_list (pv 0)) (pg_name (i := 2) nd rfl (by first | exact Or.inl rfl | exact Or.inr rfl))
        (pss_one (ps_set (i := 1) nd rfl (by first | exact Or.inl rfl | exact Or.inr rfl) (pe_op op_mul (pv 1) (pe_callB (call_max2 rfl) (by rfl) (f_max T) (by decide +kernel) (pa_cons pe_int (pa_cons (pe_callB call_lenD (by rfl) (f_len T) PySem.boot_len (pa_cons (pv 2) pa_nil)) pa_nil)))))))
      (pss_one (ps_ret (pv 1))))), ?_⟩
    refine ⟨_, rfl, R, rfl, ⟨_, SqL.of rw_.row⟩, ?_⟩
    refine for_it walk_list (fun i σ H' => (∃ v, σ = [some (.ref R), some (.int (manyR (rs.take i) : Nat)), v]) ∧ H' = H)
      ⟨⟨none, rfl⟩, rfl⟩ (fun i σ H' _ hP => by rw [hP.2]; exact SqL.of rw_.row) ?_ ?_
    · rintro i x σ H1 H2 hi ⟨⟨v, rfl⟩, rfl⟩ ⟨rfl, e⟩
      rw [List.getElem?_map] at e
      cases ew : rs[i]? with
      | none => rw [ew] at e; cases e
      | some r =>
        rw [ew] at e
        obtain rfl : V.ref r.2.1 = x := Option.some.inj e
        have hr := List.mem_of_getElem? ew
        have hx := pkN_le (qs := qsOf rs) (fun q hq => by
          obtain ⟨r, _, rfl⟩ := List.mem_map.mp hq
          exact sz_pos _) (i + 1)
        have em : manyR (rs.take (i + 1)) = manyR (rs.take i) * sz r.2.2 := by
          unfold manyR qsOf
          rw [List.map_take, List.map_take]
          exact pkN_take (qs_get ew)
        refine ⟨_, rfl, _, rfl, r.2.1, kv r.2.2, rfl, rw_.dic r hr, 1, _, rfl, _, _, rfl, rfl, .inl ⟨by omega, ?_⟩, ?_⟩
        · have hx2 : manyR (rs.take i) ≤ manyR rs := by
            have := pkN_le (qs := qsOf rs) (fun q hq => by
              obtain ⟨r, _, rfl⟩ := List.mem_map.mp hq
              exact sz_pos _) i
            unfold manyR
            unfold qsOf at this ⊢
            rw [List.map_take]
            exact this
          omega
        · refine ⟨⟨some (.ref r.2.1), ?_⟩, rfl⟩
          rw [em]
          have e2 : (if ((kv r.2.2).length : Int) > 1 then ((kv r.2.2).length : Int) else 1) = ((sz r.2.2 : Nat) : Int) := by
            unfold sz
            rw [kv_len]
            split
            · omega
            · omega
          show _ = [some (V.ref R), some (V.int ((manyR (rs.take i) * sz r.2.2 : Nat) : Int)), some (.ref r.2.1)]
          rw [Int.natCast_mul, ← e2]
          rfl
    · rintro σ H' ⟨⟨v, rfl⟩, rfl⟩
      rw [List.length_map, List.take_length]
      exact ⟨_, rfl, q⟩
def spRoom7 (K : PySem.W.Frag) : Sp := fun vs H Q _ => ∃ (R : Addr) (c : Int) (rs : Rs) (i : Nat) (r r' : Addr × Addr × Tb), vs = [.ref R, .int i] ∧ Rw K H c R rs ∧ rs[i]? = some r ∧ rs[i + 1]? = some r' ∧ manyR rs ≤ 1000 ∧
  ∀ H' v, Same H H' → (v = true → r.2.2.length * r'.2.2.length ≤ 40 ∧ ∀ p ∈ r.2.2, ∀ p' ∈ r'.2.2, p.1.length + p'.1.length ≤ 12) → Q (.bl v) H'
abbrev nRoom7 : List Str := ["_law_row", "_law_at"]
theorem sc_room7 : FnScope nRoom7 nRoom7 (defScope s__law_room) := ⟨rfl, rfl, rfl, by decide +kernel, rfl, by decide +kernel, by decide +kernel⟩
theorem ok_room7 (T : Top K mg) : Ok P w K mg base 2 "_law_room" nRoom7 (spRoom7 K) := by
  obtain ⟨fd, F⟩ := fn__law_room T
  refine ⟨⟨fd, ?_, F.bindsN fun _ _ _ _ _ _ us hl => match us, hl with | [_, _], _ => rfl⟩, g__law_room T, F.kp⟩
  refine F.ok sc_room7 (fun vs H Q E h => ?_) (fun cdv A outer s H vs Q E hr h => ?_)
  · obtain ⟨R, c, rs, i, r, r', rfl, _⟩ := h
    rfl
  · obtain ⟨R, c, rs, i, r, r', rfl, rw_, hi, hi', hmr, q⟩ := h
    have hr1 := hr
    have m1 := List.mem_of_getElem? hi
    have m2 := List.mem_of_getElem? hi'
    have g1 : (rs.map fun r => V.ref r.2.1)[i]? = some (V.ref r.2.1) := by rw [List.getElem?_map, hi]; rfl
    have g2 : (rs.map fun r => V.ref r.2.1)[i + 1]? = some (V.ref r'.2.1) := by rw [List.getElem?_map, hi']; rfl
    have v1 := rw_.vt r m1
    have v2 := rw_.vt r' m2
    refine ⟨_, PSs.nox (pss_one (ps_ret (pe_and (pe_cmpR op_lt (pe_op op_mul (pe_callB call_lenD (by rfl) (f_len T) PySem.boot_len (pa_cons (pe_ix ix_list (pv 0) (pv 1) (fun _ _ => rfl)) pa_nil)) (pe_callB call_lenD (by rfl) (f_len T) PySem.boot_len (pa_cons (pe_ix ix_list (pv 0) (pe_op op_add (pv 1) pe_int) (fun _ _ => rfl)) pa_nil))) pe_int (nomark _)) (pe_one (pe_cmpR op_lt (pe_op op_add (pc (ok_lsize T) hr1 (pa_cons (pe_ix ix_list (pv 0) (pv 1) (fun _ _ => rfl)) pa_nil)) (pc (ok_lsize T) hr1 (pa_cons (pe_ix ix_list (pv 0) (pe_op op_add (pv 1) pe_int) (fun _ _ => rfl)) pa_nil))) pe_int (nomark _)))))), ?_⟩
    have z1 := sz_le_many hi
    have z2 := sz_le_many hi'
    have l1 := v1.ln
    have l2 := v2.ln
    refine ⟨_, rfl, _, rfl, R, _, _, _, rfl, rfl, SqL.of rw_.row, atI_nat g1, r.2.1, kv r.2.2, rfl, rw_.dic r m1, ?_⟩
    refine ⟨_, rfl, _, rfl, _, _, rfl, rfl, R, _, _, _, rfl, rfl, SqL.of rw_.row, atI_nat (j := i + 1) g2, r'.2.1, kv r'.2.2, rfl, rw_.dic r' m2, _, _, rfl, rfl, .inl ⟨by rw [kv_len]; omega, by rw [kv_len]; omega⟩, _, _, rfl, rfl, ?_⟩
    rw [kv_len, kv_len]
    refine ⟨_, rfl, ite2 (fun h1 => ?_) (fun h1 => ?_)⟩
    · have h1' : (r.2.2.length : Int) * r'.2.2.length < 41 := of_decide_eq_true h1
      refine ⟨_, rfl, _, rfl, R, _, _, _, rfl, rfl, SqL.of rw_.row, atI_nat g1, r.2.1, r.2.2, rfl, rw_.dic r m1, fun p hp => Nat.le_trans (v1.wd p hp).2 (by decide), by omega, fun H1 ma s1 ha => ?_⟩
      have rw1 := rw_.same s1
      refine ⟨_, rfl, _, rfl, _, _, rfl, rfl, R, _, _, _, rfl, rfl, SqL.of rw1.row, atI_nat (j := i + 1) g2, r'.2.1, r'.2.2, rfl, rw1.dic r' m2, fun p hp => Nat.le_trans (v2.wd p hp).2 (by decide), by omega, fun H2 mb s2 hb => ?_⟩
      refine ⟨_, _, rfl, rfl, _, _, rfl, rfl, q H2 _ (s1.trans s2) fun hv => ⟨by omega, fun p hp p' hp' => ?_⟩⟩
      have h2 : ma + mb < 13 := of_decide_eq_true hv
      have := ha.le p hp
      have := hb.le p' hp'
      omega
    · exact q H _ (Same.refl H) fun hv => absurd hv Bool.false_ne_true
end
end Fp

set_option Elab.async false
set_option linter.all false
set_option maxRecDepth 100000
set_option maxHeartbeats 4000000
/-! a bench has this row -/
namespace Fp
open PySem PySem.Spec PyProof.Rows L2
section
variable {P : Program} {w : World} {K : PySem.W.Frag} {mg : Str → Option Value} {base : Heap}
def spTold (K : PySem.W.Frag) : Sp := fun vs H Q _ => ∃ (q row past R : Addr) (c : Int) (rs : Rs) (ps : List V) (n : Int), vs = [.ref q, .int c, .ref R, .int n] ∧ LamX.Tabs (TT K) H ∧ Bn K H q c row past (rs.map (·.1)) ps ∧ n = (ps.length : Nat) ∧ Rw K H c R rs ∧ isCk c ∧ rs.length ≤ 6 ∧ manyR rs ≤ 78 ∧ ∀ H', LamX.ExtN H H' → LamX.Tabs (TT K) H' → Q (.bl true) H'
abbrev nTold : List Str := ["_law_bench", "_law_clock_here", "_law_row", "_law_deeds", "_law_told", "_law_found", "_law_sparse_here", "_law_k"]
theorem sc_told : FnScope nTold ["_law_bench", "_law_clock_here", "_law_row", "_law_deeds"] (defScope s__law_is_told) := ⟨rfl, rfl, rfl, by decide +kernel, rfl, by decide +kernel, by decide +kernel⟩
theorem ok_told (T : Top K mg) (TB : LamX.TabB base mg (He.cT K dPr).1 (He.cT K dPr).2) : ∃ fd, FnG P w K mg base 10 (He.fAd K ("_law_is_told", none)) fd ["_law_bench", "_law_clock_here", "_law_row", "_law_deeds"] (spTold K) ∧ Binds K fd ["_law_bench", "_law_clock_here", "_law_row", "_law_deeds"] [] ∧ PySem.W.keepIn K (.ref (He.fAd K ("_law_is_told", none))) = true := by
  obtain ⟨fd, F⟩ := fn__law_is_told T
  refine ⟨fd, ?_, F.bindsN fun _ _ _ _ _ _ us hl => match us, hl with | [_, _, _, _], _ => rfl, F.kp⟩
  refine F.okG sc_told (fun vs H Q E h => ?_) (fun cdv A outer s H vs Q E hG hr h => ?_)
  · obtain ⟨q, row, past, R, c, rs, ps, n, rfl, _⟩ := h
    rfl
  · obtain ⟨q, row, past, R, c, rs, ps, n, rfl, tb, bn, rfl, rw_, hc, hl, hm, qq⟩ := h
    have nd := sc_told.nd
    have hs : sizeLine = 16777216 := sizeLine_eq
    obtain ⟨hc2, hc7⟩ := ck_range hc
    have hc0 : 0 < c := by omega
    have hr1 : Room 1 _ := hr.mono (by decide)
    have hr2 : Room 2 _ := hr.mono (by decide)
    have hr3 : Room 3 _ := hr.mono (by decide)
    obtain ⟨fdg, Fg, bg⟩ := (okM_bags (P := P) (w := w) (base := base) T).ex
    have hrg := hr1
    obtain ⟨fdd, Fd, bd⟩ := (okM_depth (P := P) (w := w) (base := base) T).ex
    have hrd := hr1
    obtain ⟨fdw, Fw, bw⟩ := (okM_whole (P := P) (w := w) (base := base) T).ex
    have hrw := hr
    refine ⟨_, PSs.nox (pss_cons (ps_set (i := 4) nd rfl (by first | exact Or.inl rfl | exact Or.inr rfl) (pe_meth0 (pv 0) (cls_Bench T) (m_Bench_bags T) Fg hrg bg .nil pass0))
      (pss_cons (ps_if (PW.pt (pw_or (pt_not (pt_val (pe_callB call_isi (by rfl) (f_isinstance T) (by decide +kernel) (pa_cons (pv 4) (pa_cons (pe_bltn (v := .ty "list") (by rfl) (f_list T) (by decide +kernel) rfl) pa_nil))))) (pw_or (pt_cmpR op_ne (pe_callB call_len_seq (by rfl) (f_len T) PySem.boot_len (pa_cons (pv 4) pa_nil)) (pe_callB call_len_seq (by rfl) (f_len T) PySem.boot_len (pa_cons (pv 2) pa_nil)) (nomark _)) (pw_or1 (pt_cmpR op_ne (pe_meth0 (pv 0) (cls_Bench T) (m_Bench_depth T) Fd hrd bd .nil pass0) (pv 3) (nomark _)))))) (pss_one (ps_ret pe_bl)) pss_nil)
      (pss_cons (ps_if (pt_not (pt_val (pe_callB (cr_all rfl) (by rfl) (f_all T) (by decide +kernel) (pa_cons (pe_lc (own := [("_law_k", 7)]) (g := gName 7) (tt := tYes) (te := tCall (spIs K) [] E0 (tCons (tOp (rIxL K) (tVar 4) (tVar 7)) (tCons (tVar 1) (tCons (tOp (rIxL K) (tVar 2) (tVar 7)) tNil)))) rfl nd (pi_range1 (by rfl) (f_range T) (pa_cons (pe_callB call_len_seq (by rfl) (f_len T) PySem.boot_len (pa_cons (pv 2) pa_nil)) pa_nil)) (blkOk_by (N := nTold) (sc := defScope s__law_is_told) (by decide +kernel))
        (fun _ _ _ _ _ => pg_name (i := 7) nd rfl (by first | exact Or.inl rfl | exact Or.inr rfl)) (fun _ _ _ _ _ => pts_nil) (fun _ _ _ _ _ => by exact (pc_is T TB hG hr3 (pa_cons (pe_ix ix_list (pv 4) (pv 7) (fun _ _ => rfl)) (pa_cons (pv 1) (pa_cons (pe_ix ix_list (pv 2) (pv 7) (fun _ _ => rfl)) pa_nil)))))) pa_nil)))) (pss_one (ps_ret pe_bl)) pss_nil)
      (pss_cons (ps_expr (pe_bm PySem.F.plainAttrs_list PySem.F.slot_list_append PySem.F.type_list_append mt_append (pv 4) (pa_cons pe_non pa_nil)))
      (pss_cons (ps_set (i := 5) nd rfl (by first | exact Or.inl rfl | exact Or.inr rfl) (pe_disp (pps_cons pe_str pe_int pps_nil) (by rfl) (by rfl) (fun z => by cases z) (by decide)))
      (pss_cons (ps_for PassesOwn.never rfl (pi_list (pv 2)) (pg_name (i := 6) nd rfl (by first | exact Or.inl rfl | exact Or.inr rfl))
        (pss_one (ps_set (i := 5) nd rfl (by first | exact Or.inl rfl | exact Or.inr rfl) (pc (ok_lprod T) hr2 (pa_cons (pv 1) (pa_cons (pv 5) (pa_cons (pv 6) pa_nil)))))))
      (pss_one (ps_ret (pe_and (pc_is T TB hG hr3 (pa_cons (pe_meth0 (pv 0) (cls_Bench T) (m_Bench_whole T) Fw hrw bw .nil pass0) (pa_cons (pv 1) (pa_cons (pv 5) pa_nil)))) (pe_one (pe_cmpR op_eq (pe_callB call_len_seq (by rfl) (f_len T) PySem.boot_len (pa_cons (pe_meth0 (pv 0) (cls_Bench T) (m_Bench_bags T) Fg hrg bg .nil pass0) pa_nil)) (pe_callB call_len_seq (by rfl) (f_len T) PySem.boot_len (pa_cons (pv 2) pa_nil)) (nomark _)))))))))))), ?_⟩
    obtain ⟨dx, h1⟩ := bn.at_
    refine ⟨_, rfl, q, dx, _, rfl, h1, bf_none _ _ _ _, q, row, past, c, _, ps, rfl, bn, fun H1 L s1 nL eL => ?_⟩
    have bn1 := bn.same s1
    have rw1 := rw_.same s1
    have tb1 := tb.ext s1
    refine ⟨_, rfl, _, _, _, _, true, rfl, .ty "list", .base (.lst eL), kit_ty (by decide +kernel), true, rfl, iteF ?_⟩
    refine ⟨_, rfl, L, _, rfl, .inl (SqL.of eL), _, rfl, R, _, rfl, .inl (SqL.of rw1.row), rfl, _, rfl, ?_⟩
    rw [List.length_map, List.length_map, List.length_map, decide_eq_true rfl]
    refine iteF ?_
    obtain ⟨dx1, h1'⟩ := bn1.at_
    refine ⟨_, rfl, q, dx1, _, rfl, h1', bf_none _ _ _ _, q, row, past, c, _, ps, rfl, bn1, _, rfl, rfl, _, rfl, ?_⟩
    rw [decide_eq_true rfl]
    refine iteF ?_
    refine ⟨_, rfl, R, _, rfl, .inl (SqL.of rw1.row), _, rfl, by omega, by rw [List.length_map]; omega, fun F0 hF => ?_⟩
    refine lc_it walk_range (fun i H' => H' F0 = some (.lst ((List.replicate i true).map V.bl)) ∧ LamX.ExtN H1 H' ∧ LamX.Tabs (TT K) H') ⟨upd_same, LamX.ExtN.of (same_upd hF), tb1.ext (same_upd hF)⟩ (fun _ _ _ _ => trivial) ?_ ?_
    · rintro i x Ha Hb hi ⟨g1, g2, g3⟩ ⟨rfl, rfl⟩
      rw [List.length_map] at hi
      have er : rs[i]? = some rs[i] := List.getElem?_eq_getElem hi
      have hm_ := List.getElem_mem hi
      generalize rs[i] = r at er hm_
      have rwb := rw1.ext g2
      have e3 := g2 _ _ eL (by intro ps z; cases z)
      have ei1 : ((rs.map (·.1)).map V.ref)[i]? = some (V.ref r.1) := by
        rw [List.getElem?_map, List.getElem?_map, er]
        rfl
      have ei2 : (rs.map fun r => V.ref r.2.1)[i]? = some (V.ref r.2.1) := by
        rw [List.getElem?_map, er]
        rfl
      have v := rwb.vt r hm_
      have hz := sz_le_many er
      refine ⟨rfl, ?_⟩
      refine ⟨_, rfl, _, rfl, L, _, _, _, rfl, rfl, SqL.of e3, (by rw [show (0 : Int) + (i : Nat) = ((i : Nat) : Int) by omega]; exact atI_nat ei1), _, rfl, _, rfl, _, rfl, R, _, _, _, rfl, rfl, SqL.of rwb.row, (by rw [show (0 : Int) + (i : Nat) = ((i : Nat) : Int) by omega]; exact atI_nat ei2), ?_⟩
      refine ⟨r.1, r.2.1, c, 12, sz r.2.2, r.2.2, rfl, g3, rwb.bag r hm_, rwb.dic r hm_, by omega, v, vt_canon v, by omega, fun Hx7 x7 tb7 => ?_⟩
      have e7 := x7 _ _ g1 (by intro ps z; cases z)
      refine ⟨_, e7, by rw [List.length_map, List.length_replicate]; omega, by rw [upd_same, rep_succ], fun b o y ny => ?_, tabs_but tb7 ⟨_, e7⟩ but_upd⟩
      rw [upd_ne (ne_of_none y hF)]
      exact (g2.trans x7) _ _ y ny
    rintro H2 ⟨g1, g2, g3⟩
    refine ⟨F0, _, rfl, SqL.of g1, true, ?_, ?_⟩
    · rw [all_rep]
    refine iteF ?_
    have eL2 := g2 _ _ eL (by intro ps z; cases z)
    refine ⟨_, rfl, .inl ⟨rfl, _, SqL.of eL2⟩, L, _, _, rfl, rfl, eL2, by rw [List.length_map, List.length_map]; omega, ?_⟩
    have x3 : LamX.ExtN H (upd H2 L (.lst ((rs.map (·.1)).map V.ref ++ [.non]))) := fun b o y ny => by
      rw [upd_ne (ne_of_none y nL)]
      exact g2 _ _ (s1 _ _ y) ny
    have tb3 : LamX.Tabs (TT K) (upd H2 L (.lst ((rs.map (·.1)).map V.ref ++ [.non]))) := tabs_but g3 ⟨_, eL2⟩ but_upd
    generalize upd H2 L (.lst ((rs.map (·.1)).map V.ref ++ [.non])) = H3 at x3 tb3 ⊢
    clear g1 g2 g3 eL2 hF eL nL rw1 tb1 bn1 h1' s1
    have bn3 := bn.ext x3
    have rw3 := rw_.ext x3
    refine fun D hD => ⟨upd_same, kv [("", 1)], rfl, Nat.le_of_ble_eq_true rfl, ?_⟩
    rw [upd_upd, merge_kv (vt_unit hc2 0).nd]
    have s4 := same_upd (o := .dK (kv [("", 1)])) hD
    have nDd : ∀ r ∈ rs, D ≠ r.2.1 := fun r hr e => by
      have := rw3.dic r hr
      rw [← e, hD] at this
      cases this
    have rw4 := rw3.same s4
    refine ⟨_, rfl, R, rfl, ⟨_, SqL.of rw4.row⟩, ?_⟩
    refine for_it walk_list (fun i σ H' => ∃ (d : Addr) (v : Option V) (t : Tb), σ = [some (.ref q), some (.int c), some (.ref R), some (.int (ps.length : Nat)), some (.ref L), some (.ref d), v, none] ∧ H' d = some (.dK (kv t)) ∧ VT c (12 * i) (pkN ((qsOf rs).take i)) t ∧ Lk c t (pbT ((qsOf rs).take i)) ∧ (∀ r ∈ rs, d ≠ r.2.1) ∧ Same H3 H')
      ⟨D, none, [("", 1)], rfl, upd_same, (vt_unit hc2 _), Lk.refl _ _, nDd, s4⟩ (fun _ _ H' _ hP => SqL.of (hP.choose_spec.choose_spec.choose_spec.2.2.2.2.2 _ _ rw3.row)) ?_ ?_
    · rintro i x σ Ha Hb hi ⟨d, v, t, rfl, p1, p2, p3, p4, p5⟩ ⟨rfl, e⟩
      rw [List.length_map] at hi
      rw [List.getElem?_map] at e
      cases ew : rs[i]? with
      | none => rw [ew] at e; cases e
      | some r =>
        rw [ew] at e
        obtain rfl : V.ref r.2.1 = x := Option.some.inj e
        have hrm := List.mem_of_getElem? ew
        have eq := qs_get ew
        have kp := pkN_le (qs := qsOf rs) (fun q hq => by
          obtain ⟨r, _, rfl⟩ := List.mem_map.mp hq
          exact sz_pos _) (i + 1)
        rw [pkN_take eq] at kp
        have hmm : pkN (qsOf rs) ≤ 78 := hm
        have v0 := rw3.vt r hrm
        refine ⟨_, rfl, _, rfl, _, rfl, d, r.2.1, c, 12 * i, pkN ((qsOf rs).take i), 12, sz r.2.2, t, r.2.2, rfl, hc0, hc7, p4 r hrm, p1, p5 _ _ (rw3.dic r hrm), p2, v0, by omega, by decide, by have k2 : pkN ((qsOf rs).take i) * sz r.2.2 ≤ pkN (qsOf rs) := kp; omega, fun H4 D4 s5 n5 e5 => ?_⟩
        obtain ⟨w1, w2⟩ := prodC_vt (m := 12 * i + 12) (k := pkN ((qsOf rs).take i) * sz r.2.2) hc0 p2 v0 (fun a ha b hb => Nat.add_le_add (p2.wd a ha).2 (v0.wd b hb).2) (Nat.mul_le_mul p2.ln v0.ln)
        refine ⟨D4, _, _, rfl, e5, ?_, ?_, fun r' hr' e' => ?_, p5.trans s5⟩
        · rw [Nat.mul_succ, pkN_take eq]
          exact w1
        · rw [pbT_take eq]
          exact w2.trans (Lk.prs p3 (Lk.refl _ _))
        · have := p5 _ _ (rw3.dic r' hr')
          rw [← e', n5] at this
          cases this
    rintro σ Hc ⟨d, v, t, rfl, p1, p2, p3, p4, p5⟩
    rw [List.length_map] at p2 p3
    rw [show rs.length = (qsOf rs).length by unfold qsOf; rw [List.length_map]] at p2 p3
    rw [List.take_length] at p2 p3
    have bn5 := bn3.same p5
    have rw5 := rw3.same p5
    have tb5 := tb3.ext p5
    obtain ⟨dx5, h5⟩ := bn5.at_
    have hql : (qsOf rs).length = rs.length := by unfold qsOf; rw [List.length_map]
    have hqm : (qsOf rs).map (·.1) = rs.map (·.1) := by
      unfold qsOf
      rw [List.map_map]
      rfl
    have hmm : pkN (qsOf rs) ≤ 78 := hm
    refine ⟨_, rfl, q, dx5, _, rfl, h5, bf_none _ _ _ _, q, row, past, c, qsOf rs, ps, rfl, by rw [hqm]; exact bn5, hc, by omega, fun z hz => ?_, by omega, fun H6 b t6 s6 n6 hb6 lk6 => ?_⟩
    · obtain ⟨r, hr_, rfl⟩ := List.mem_map.mp hz
      exact ⟨⟨rw5.bag r hr_, rw5.vt r hr_⟩, sz_pos _⟩
    have p1' := s6 _ _ p1
    have hcn : canon t6 = canon t := lk_same hc0 hb6.2 p2 (lk6.trans p3.symm)
    have hb6' := hb6.1
    rw [hcn] at hb6'
    have kb : pkN (qsOf rs) * (12 * (qsOf rs).length + 20) ≤ 78 * 92 := Nat.mul_le_mul hmm (by omega)
    refine ⟨_, rfl, _, rfl, b, d, c, 12 * (qsOf rs).length, pkN (qsOf rs), t, rfl, tb5.ext s6, hb6', p1', by omega, p2, vt_canon p2, by omega, fun H7 x7 tb7 => ⟨true, rfl, iteT ?_⟩⟩
    have bn7 := (bn5.same s6).ext x7
    have rw7 := (rw5.same s6).ext x7
    obtain ⟨dx7, h7⟩ := bn7.at_
    refine ⟨_, rfl, q, dx7, _, rfl, h7, bf_none _ _ _ _, q, row, past, c, _, ps, rfl, bn7, fun H8 L8 s8 nL8 eL8 => ?_⟩
    refine ⟨L8, _, rfl, .inl (SqL.of eL8), _, rfl, R, _, rfl, .inl (SqL.of (rw7.same s8).row), rfl, ?_⟩
    rw [List.length_map, List.length_map, List.length_map, decide_eq_true rfl]
    exact qq H8 (((x3.trans (LamX.ExtN.of (p5.trans s6))).trans x7).trans (LamX.ExtN.of s8)) (tb7.ext s8)
end
theorem pc_told {X : Cx} {p pos : Pos} {e1 e2 e3 e4 : Expr} {t : TA} (T : Top X.K X.mg) (TB : LamX.TabB X.base X.mg (He.cT X.K dPr).1 (He.cT X.K dPr).2) (hG : Gd X.A) (hr : Room 10 X.A) (ha : PA X [e1, e2, e3, e4] t) (hg : Gl X "_law_is_told" := by rfl)
    (he : starEach [e1, e2, e3, e4] X.env = (false, eval e1 X.env) :: starEach [e2, e3, e4] X.env := by rfl) (hpl : (backTo pos (starEach [e2, e3, e4] X.env)).any (·.1) = false := by rfl) : PE X (.Call (.Name "_law_is_told" p) [e1, e2, e3, e4] [] pos) (tCall (spTold X.K) [] E0 t) := by
  obtain ⟨fd, F, b, k⟩ := ok_told (P := X.prog) (w := X.w) (base := X.base) T TB
  exact pe_callG F hG hr hg (g__law_is_told T) k b ha (by decide) he hpl
end Fp

set_option Elab.async false
set_option linter.all false
set_option maxRecDepth 100000
set_option maxHeartbeats 4000000
/-! what stands between two deeds -/
namespace L2
open PySem PySem.Spec PyProof.Rows HT
section
variable {X : Cx}
def rMulZt : R2 := fun x y H Q => x = .str "z" ∧ y = .int 12 ∧ Q (.str (PySem.Txt.mul "z" 12)) H
theorem op_mulZt : OpR X (binaryOp .Mult) rMulZt := by
  intro pins s σ H x y v u Q I rx ry h
  obtain ⟨rfl, rfl, q⟩ := h
  obtain ⟨t, rfl⟩ := rx
  obtain ⟨t', rfl⟩ := ry
  refine SB.mul ⟨?_, fun h1 h2 => ?_, fun h1 h2 => ?_⟩ fun t2 k => ⟨.str (PySem.Txt.mul "z" 12), H, I.tok _, ⟨_, rfl⟩, q⟩
  · rfl
  · decide +kernel
  · decide +kernel
end
end L2
namespace Fp
open PySem PySem.Spec PyProof.Rows L2
theorem PS.weak {X : Cx} {st : Stmt} {t t' : TS} (h : PS X st t) (w : ∀ D σ H, t' D σ H → t D σ H) : PS X st t' := ⟨fun pins s σ H D I q => h.run pins s σ H D I (w _ _ _ q)⟩
theorem PT.weak {X : Cx} {e : Expr} {t t' : L2.TT} (h : PT X e t) (w : ∀ σ H Q, t' σ H Q → t σ H Q) : PT X e t' := ⟨fun pins s σ H Q I q => h.run pins s σ H Q I (w _ _ _ q)⟩
theorem Same.ext {H H' : Hp} (s : Same H H') : LamX.ExtN H H' := LamX.ExtN.of s
/-- the tape, the table, the bench -/
structure Cr (K : PySem.W.Frag) (H : Hp) (h ca q past : Addr) (c : Int) (as : List Addr) (n : Nat) : Prop where
  tape : TapeAt ca H h
  tb : LamX.Tabs (TT K) H
  bn : ∃ row ps, Bn K H q c row past as ps ∧ ps.length = n
  ne : h ≠ past ∧ ca ≠ past
/-- the bags and the dicts of the row -/
structure Bs (K : PySem.W.Frag) (H : Hp) (c : Int) (rs : Rs) : Prop where
  bag : ∀ r ∈ rs, BagAt K H r.1 c (canon r.2.2)
  dic : ∀ r ∈ rs, H r.2.1 = some (.dK (kv r.2.2))
  vt : ∀ r ∈ rs, VT c 12 (sz r.2.2) r.2.2
  nd : (rs.map (·.2.1)).Nodup
section
variable {K : PySem.W.Frag} {H H' : Hp} {h ca q past x : Addr} {c : Int} {as as' : List Addr} {n : Nat} {rs : Rs}
theorem Cr.ext (s : Cr K H h ca q past c as n) (e : LamX.ExtN H H') (t : LamX.Tabs (TT K) H') : Cr K H' h ca q past c as n := by
  obtain ⟨h1, h2, ⟨row, ps, h3, h4⟩, h5⟩ := s
  exact ⟨h1.ext e, t, ⟨row, ps, h3.ext e, h4⟩, h5⟩
theorem Cr.same (s : Cr K H h ca q past c as n) (e : Same H H') : Cr K H' h ca q past c as n := s.ext (LamX.ExtN.of e) (s.tb.ext e)
theorem Bn.but {row : Addr} {ps : List V} (b : Bn K H q c row past as ps) (hx : ∃ xs, H x = some (.lst xs)) (k : But x H H') (n : past ≠ x) : Bn K H' q c row past as ps := by
  obtain ⟨xs, hx⟩ := hx
  obtain ⟨⟨dx, h1⟩, h2, h3⟩ := b
  exact ⟨⟨dx, k _ _ h1 (ne_of h1 hx (by intro z; cases z))⟩, k _ _ h2 (ne_of h2 hx (by intro z; cases z)), k _ _ h3 n⟩
theorem Cr.tape' (s : Cr K H h ca q past c as n) (t : TapeAt ca H' h) (k : But h H H') : Cr K H' h ca q past c as n := by
  obtain ⟨h1, h2, ⟨row, ps, h3, h4⟩, h5⟩ := s
  exact ⟨t, tabs_but h2 h1.lst k, ⟨row, ps, h3.but h1.lst k h5.1.symm, h4⟩, h5⟩
theorem Cr.row (s : Cr K H h ca q past c as n) (hx : ∃ xs, H x = some (.lst xs)) (k : But x H H') (n1 : x ≠ past ∧ x ≠ h ∧ x ≠ ca) : Cr K H' h ca q past c as n := by
  obtain ⟨h1, h2, ⟨row, ps, h3, h4⟩, h5⟩ := s
  exact ⟨h1.off k n1.2.1.symm n1.2.2.symm, tabs_but h2 hx k, ⟨row, ps, h3.but hx k n1.1.symm, h4⟩, h5⟩
theorem tabs_but2 {T : List (Addr × Str)} {C dx : Addr} {fs : List (Str × V)} {ps : List V} (t : LamX.Tabs T H) (hq : H q = some (.ins C dx fs)) (hp : H past = some (.lst ps)) (k : But2 q past H H') : LamX.Tabs T H' := fun p hp' => by
  obtain ⟨ps, h1, h2, h3⟩ := t p hp'
  refine ⟨ps, k _ _ h1 (ne_of h1 hq (by intro y; cases y)) (ne_of h1 hp (by intro y; cases y)), h2, fun pos cv hc => ?_⟩
  obtain ⟨c, e1, e2⟩ := h3 pos cv hc
  exact ⟨c, e1, k _ _ e2 (ne_of e2 hq (by intro y; cases y)) (ne_of e2 hp (by intro y; cases y))⟩
theorem Cr.deed (s : Cr K H h ca q past c as n) (k : But2 q past H H') {row' : Addr} {ps' : List V} (b : Bn K H' q c row' past as' ps') {m : Nat} (hm : ps'.length = m) : Cr K H' h ca q past c as' m := by
  obtain ⟨h1, h2, ⟨row, ps, h3, h4⟩, h5⟩ := s
  obtain ⟨dx, e1⟩ := h3.at_
  obtain ⟨cs, a, l, sd, tn, t1, t2, t3⟩ := h1
  exact ⟨⟨cs, a, l, sd, tn, k _ _ t1 (ne_of t1 e1 (by intro y; cases y)) h5.1, k _ _ t2 (ne_of t2 e1 (by intro y; cases y)) h5.2, t3⟩, tabs_but2 h2 e1 h3.past k, ⟨row', ps', b, hm⟩, h5⟩
theorem Bs.ext (s : Bs K H c rs) (e : LamX.ExtN H H') : Bs K H' c rs := ⟨fun r hr => (s.bag r hr).ext e, fun r hr => e _ _ (s.dic r hr) (by intro ps z; cases z), s.vt, s.nd⟩
theorem Bs.same (s : Bs K H c rs) (e : Same H H') : Bs K H' c rs := s.ext (LamX.ExtN.of e)
theorem Bs.but (s : Bs K H c rs) (hx : ∃ xs, H x = some (.lst xs)) (k : But x H H') : Bs K H' c rs := by
  refine ⟨fun r hr => (s.bag r hr).but k hx, fun r hr => ?_, s.vt, s.nd⟩
  obtain ⟨xs, hx⟩ := hx
  exact k _ _ (s.dic r hr) (ne_of (s.dic r hr) hx (by intro y; cases y))
theorem Bs.deed (s : Bs K H c rs) (z : Cr K H h ca q past c as n) (k : But2 q past H H') : Bs K H' c rs := by
  obtain ⟨h1, h2, ⟨row, ps, h3, h4⟩, h5⟩ := z
  obtain ⟨dx, e1⟩ := h3.at_
  exact ⟨fun r hr => (s.bag r hr).but2 ⟨dx, _, _, _, e1⟩ ⟨_, h3.past⟩ k, fun r hr => k _ _ (s.dic r hr) (ne_of (s.dic r hr) e1 (by intro y; cases y)) (ne_of (s.dic r hr) h3.past (by intro y; cases y)), s.vt, s.nd⟩
theorem Bs.sub {rs' : Rs} (s : Bs K H c rs) (u : rs'.Sublist rs) : Bs K H c rs' := ⟨fun r hr => s.bag r (u.subset hr), fun r hr => s.dic r (u.subset hr), fun r hr => s.vt r (u.subset hr), (u.map _).nodup s.nd⟩
theorem Bs.ins {xs ys : Rs} (s : Bs K H c (xs ++ ys)) {r : Addr × Addr × Tb} (b : BagAt K H r.1 c (canon r.2.2)) (d : H r.2.1 = some (.dK (kv r.2.2))) (v : VT c 12 (sz r.2.2) r.2.2) (n : ∀ z ∈ xs ++ ys, r.2.1 ≠ z.2.1) : Bs K H c (xs ++ [r] ++ ys) := by
  have m : ∀ z ∈ xs ++ [r] ++ ys, z = r ∨ z ∈ xs ++ ys := fun z hz => by
    rcases List.mem_append.mp hz with hz | hz
    · rcases List.mem_append.mp hz with hz | hz
      · exact .inr (List.mem_append_left _ hz)
      · exact .inl (List.mem_singleton.mp hz)
    · exact .inr (List.mem_append_right _ hz)
  refine ⟨fun z hz => ?_, fun z hz => ?_, fun z hz => ?_, ?_⟩
  · rcases m z hz with rfl | hz
    · exact b
    · exact s.bag z hz
  · rcases m z hz with rfl | hz
    · exact d
    · exact s.dic z hz
  · rcases m z hz with rfl | hz
    · exact v
    · exact s.vt z hz
  · have h1 := s.nd
    rw [List.map_append, List.nodup_append] at h1
    rw [List.append_assoc, List.map_append, List.nodup_append]
    refine ⟨h1.1, ?_, fun a ha b' hb => ?_⟩
    · rw [List.singleton_append, List.map_cons, List.nodup_cons]
      refine ⟨fun e => ?_, h1.2.1⟩
      obtain ⟨z, hz, e2⟩ := List.mem_map.mp e
      exact n z (List.mem_append_right _ hz) e2.symm
    · rw [List.singleton_append, List.map_cons] at hb
      rcases List.mem_cons.mp hb with rfl | hb
      · obtain ⟨z, hz, rfl⟩ := List.mem_map.mp ha
        exact fun e => n z (List.mem_append_left _ hz) e.symm
      · exact h1.2.2 a ha b' hb
theorem cut_sub (l : List (Addr × Addr × Tb)) {i m : Nat} (hm : i ≤ m) : (l.take i ++ l.drop m).Sublist l := by
  have e : l = l.take i ++ l.drop i := (List.take_append_drop i l).symm
  have e2 : l.drop m = (l.drop i).drop (m - i) := by rw [List.drop_drop]; congr 1; omega
  conv => rhs; rw [e]
  rw [e2]
  exact (List.Sublist.refl _).append (List.drop_sublist _ _)
end
/-- all that stands between two deeds -/
structure Sx (K : PySem.W.Frag) (H : Hp) (h ca q past R : Addr) (c : Int) (rs : Rs) (n : Nat) : Prop where
  cr : Cr K H h ca q past c (rs.map (·.1)) n
  bs : Bs K H c rs
  eR : H R = some (.lst (rs.map fun r => V.ref r.2.1))
  nR : R ≠ past ∧ R ≠ h ∧ R ≠ ca
  len : rs.length ≤ 6
  many : manyR rs ≤ 78
theorem Sx.rw {K : PySem.W.Frag} {H : Hp} {h ca q past R : Addr} {c : Int} {rs : Rs} {n : Nat} (s : Sx K H h ca q past R c rs n) : Rw K H c R rs := ⟨s.eR, s.bs.bag, s.bs.dic, s.bs.vt, s.bs.nd⟩
theorem Sx.ext {K : PySem.W.Frag} {H H' : Hp} {h ca q past R : Addr} {c : Int} {rs : Rs} {n : Nat} (s : Sx K H h ca q past R c rs n) (e : LamX.ExtN H H') (t : LamX.Tabs (TT K) H') : Sx K H' h ca q past R c rs n := ⟨s.cr.ext e t, s.bs.ext e, e _ _ s.eR (by intro ps z; cases z), s.nR, s.len, s.many⟩
theorem Sx.same {K : PySem.W.Frag} {H H' : Hp} {h ca q past R : Addr} {c : Int} {rs : Rs} {n : Nat} (s : Sx K H h ca q past R c rs n) (e : Same H H') : Sx K H' h ca q past R c rs n := s.ext (LamX.ExtN.of e) (s.cr.tb.ext e)
theorem Sx.tape' {K : PySem.W.Frag} {H H' : Hp} {h ca q past R : Addr} {c : Int} {rs : Rs} {n : Nat} (s : Sx K H h ca q past R c rs n) (t : TapeAt ca H' h) (k : But h H H') : Sx K H' h ca q past R c rs n := ⟨s.cr.tape' t k, s.bs.but s.cr.tape.lst k, k _ _ s.eR s.nR.2.1, s.nR, s.len, s.many⟩
def tCond1 (K : PySem.W.Frag) : L2.TT := fun σ H Q => ∃ (x0 x1 x2 x3 x4 x6 x7 x9 x10 x11 x12 x13 : Option V) (R : Addr) (c : Int) (rs : Rs) (w : Int), σ = [x0, x1, x2, x3, x4, some (.ref R), x6, x7, some (.int w), x9, x10, x11, x12, x13] ∧ Rw K H c R rs ∧ rs.length ≤ 6 ∧ manyR rs ≤ 78 ∧
  ∀ k, (k = true → rs.length < 6 ∧ manyR rs < 20) → (k = false → rs ≠ []) → Q k H
def tCond3 (K : PySem.W.Frag) : L2.TT := fun σ H Q => ∃ (x0 x1 x2 x3 x4 x6 x7 x10 x11 x12 x13 : Option V) (R : Addr) (c : Int) (rs : Rs) (w : Int) (i : Nat), σ = [x0, x1, x2, x3, x4, some (.ref R), x6, x7, some (.int w), some (.int i), x10, x11, x12, x13] ∧ Rw K H c R rs ∧ rs.length ≤ 6 ∧ manyR rs ≤ 78 ∧
  ∀ H' k, Same H H' → (k = true → ∃ r r', rs[i]? = some r ∧ rs[i + 1]? = some r' ∧ r.2.2.length * r'.2.2.length ≤ 40 ∧ ∀ p ∈ r.2.2, ∀ p' ∈ r'.2.2, p.1.length + p'.1.length ≤ 12) → Q k H'
def tCond4 (K : PySem.W.Frag) : L2.TT := fun σ H Q => ∃ (x0 x1 x2 x3 x4 x6 x7 x9 x10 x11 x12 x13 : Option V) (R : Addr) (c : Int) (rs : Rs) (w : Int), σ = [x0, x1, x2, x3, x4, some (.ref R), x6, x7, some (.int w), x9, x10, x11, x12, x13] ∧ Rw K H c R rs ∧ manyR rs ≤ 78 ∧
  ∀ k, (k = true → manyR rs < 40) → Q k H
def tDeed (K : PySem.W.Frag) : TS := fun D σ H => ∃ (x0 x7 x11 x12 x13 : Option V) (h ca q past R : Addr) (c : Int) (z : Str) (rs : Rs) (n i : Nat) (w : Int), σ = [x0, some (.ref h), some (.int c), some (.str z), some (.ref q), some (.ref R), some (.int n), x7, some (.int w), some (.int i), some .non, x11, x12, x13] ∧
  Sx K H h ca q past R c rs n ∧ isCk c ∧ xyz z ∧ 1 ≤ z.length ∧ z.length ≤ 3 ∧ n ≤ 100 ∧ (rs ≠ [] → i < rs.length) ∧
  ∀ H' R' rs' n' y11 y12 y13, Sx K H' h ca q past R' c rs' n' → n' ≤ n + 1 → D.nx [x0, some (.ref h), some (.int c), some (.str z), some (.ref q), some (.ref R'), some (.int (n' : Nat)), x7, some (.int w), some (.int i), some .non, y11, y12, y13] H'
end Fp

set_option Elab.async false
set_option linter.all false
set_option maxRecDepth 100000
set_option maxHeartbeats 2000000
/-! the end of a law whose defs show things with repr: nothing is being shown where it is called -/
namespace L2
open PySem PySem.Spec PyProof.Rows
section
variable {P : Program} {w : World} {K : PySem.W.Frag} {s₁ : Shared} {a : Addr} {vs : List Value} {ns : List Int}
/-- what is tracked at the start: the script, where it is none of the module's own objects -/
theorem start_hp (KX : K.In s₁.heap) (ha : s₁.heap.get? a = some { cls := .type "list", data := .seq vs.toArray }) (hi : IntsAre vs ns) (hl : ns.length ≤ sizeLine) :
    ∃ H : Hp, Only H ∧ SqL K H a (ns.map V.int) ∧ HOk P w H s₁.heap ∧ ∀ b, H b ≠ none → b = a ∧ K.lookup a = none := by
  have rv := vals_ints hi
  have lv := hi.length
  rcases hk : K.lookup a with _ | o
  · let o1 : HO := .frz { cls := .type "list", data := .seq vs.toArray } (.lst (ns.map V.int))
    have e1 : upd (fun _ => none) a o1 a = some o1 := upd_same
    have e2 : ∀ b, b ≠ a → upd (fun _ => none) a o1 b = none := fun b n => upd_ne n
    refine ⟨upd (fun _ => none) a o1, fun b => ?_, .inl (.inr ⟨_, e1⟩), fun b u z => ?_, fun b z => ?_⟩
    · by_cases n : b = a
      · subst n
        exact .inr ⟨_, _, e1⟩
      · exact .inl (e2 b n)
    · by_cases n : b = a
      · subst n
        rw [e1] at z
        cases z
        exact ⟨ha, by rw [List.length_map]; exact hl, vs, _, rv, ha⟩
      · rw [e2 b n] at z
        cases z
    · by_cases n : b = a
      · exact ⟨n, rfl⟩
      · exact absurd (e2 b n) z
  · have e := (KX a o hk).symm.trans ha
    injection e with e
    subst e
    exact ⟨fun _ => none, fun _ => .inl rfl, .inr ⟨_, vs.toArray, _, hk, rfl, rfl, rfl, by rw [List.size_toArray, lv]; exact hl, by simpa using rv⟩, fun b u z => (by cases (show (none : Option HO) = some u from z)), fun b z => absurd rfl z⟩
end
theorem callG {P : Program} {w : World} {K : PySem.W.Frag} {mg mb : Str → Option Value} {k : Nat} {fa a : Addr} {fd : FuncData} {x : Str} {sp : Sp} {s₁ : Shared} {vs : List Value} {ns : List Int}
    (KX : K.In s₁.heap) (nsG : s₁.heap.Ns mainGlobals mg) (nsB : s₁.heap.Ns builtinsNs mb) (bb : ∀ x : Str, x ≠ "__name__" → mb x = bootBuiltins x) (nl : s₁.heap.NoLimit) (ng : s₁.gens = #[])
    (ha : s₁.heap.get? a = some { cls := .type "list", data := .seq vs.toArray }) (hi : IntsAre vs ns) (hl : ns.length ≤ sizeLine) (hr : Room k callerA)
    (F : ∀ base : Heap, K.In base → base.Ns mainGlobals mg → FnG P w K mg base k fa fd [x] sp) (bind : ∀ (s : Shared) (u : Value), BindsTo s fd ⟨[u], []⟩ [(x, u)])
    (hsp : ∀ H : Hp, Only H → SqL K H a (ns.map V.int) → sp [.ref a] H (fun v _ => v = .bl true) fun _ _ _ => False) :
    codeAny (model P w) callerA (.call (.ref fa) ⟨[.ref a], []⟩) (fun r s' => r = .ok (.ret (.bool true)) ∧ OldK s₁.heap s'.heap ∧ s'.os = s₁.os ∧ AllBare s'.gens) s₁ := by
  obtain ⟨H, hO, hS, hok, hA⟩ := start_hp (P := P) (w := w) KX ha hi hl
  have free : ∀ {b : Addr} {o : Obj}, s₁.heap.get? b = some o → (b = a → o ≠ { cls := .type "list", data := .seq vs.toArray } ∨ K.lookup a ≠ none) → H b = none := fun {b o} e n => by
    by_cases z : H b = none
    · exact z
    · obtain ⟨rfl, hk⟩ := hA b z
      rcases n rfl with n | n
      · exact absurd (Option.some.inj (e.symm.trans ha)) n
      · exact absurd hk n
  have nsH : ∀ {b : Addr} {m : Str → Option Value}, s₁.heap.Ns b m → (hidT s₁.heap H).Ns b m := fun {b m} z => by
    obtain ⟨o, es, ep, e, d, r⟩ := z
    refine ⟨o, es, ep, hidT_get e (free e fun _ => .inl fun y => ?_), d, r⟩
    rw [y] at d
    cases d
  have inH : K.In (hidT s₁.heap H) := fun b o e => hidT_get (KX b o e) (free (KX b o e) fun y => .inr fun n => by rw [← y, e] at n; cases n)
  obtain ⟨mc, l1, l2⟩ := nl
  have e0 : Env0 P w K mg (hidT s₁.heap H) callerA [] s₁ H :=
    ⟨rfl, ⟨inH, nsH nsG, ⟨mb, nsH nsB, bb⟩, ⟨mc, nsH l1, l2⟩⟩, fun b o e => of_hidT e, Nat.le_of_eq (hidT_size _ _), trivial, fun b hb => (by cases hb), hok, .of_eq ng⟩
  refine codeAny_mono ((F _ inH (nsH nsG)).run callerA [] s₁ H ⟨[.ref a], []⟩ [.ref a] [.ref a] _ _ rfl hr e0 (bind s₁ (.ref a)) (.cons rfl .nil) (hsp H hO hS)) fun r s' h => ?_
  match r, h with
  | .error e, h => exact h.elim
  | .ok .next, h => exact h.elim
  | .ok .brk, h => exact h.elim
  | .ok .cont, h => exact h.elim
  | .ok (.ret u), ⟨v, H', os, bare, un, hok', rv, q⟩ =>
    cases (show v = V.bl true from q)
    obtain rfl : u = Value.bool true := rv
    refine ⟨rfl, OldK.of_keep fun b o e => ?_, os, bare⟩
    rcases hO b with z | ⟨ob, xs, z⟩
    · exact un.keep b o e z (fun y => by cases y) (fun y => by cases y)
    · have e1 := (hok b _ z).1
      have e2 := (hok' b _ (un.frzs b ob _ z)).1
      rw [← Option.some.inj (e1.symm.trans e)]
      exact e2
theorem walk_ofG {l : PySem.W.OpenLaw} {n k : Nat} {q : Program} {loose : List Str} {XP : (Str → Option Value) → Heap → Prop} {YP : World → Heap → Prop} {d : DefRec} {x : Str}
    (hn : l.most = some n) (hn2 : n ≤ sizeLine) (hdf : d.params.defaults = []) (hr : Room k callerA)
    (F : ∀ (w : World) (mg : Str → Option Value) (fa : Addr) (h : Heap), YP w h → h.Ns mainGlobals mg → mg d.name = some (.ref fa) →
      ∃ (K : PySem.W.Frag) (fd : FuncData) (sp : Sp), K.In h ∧ (∀ (s : Shared) (u : Value), BindsTo s fd ⟨[u], []⟩ [(x, u)]) ∧
        (∀ (H : Hp) (a : Addr) (ns : List Int), ns.length ≤ n → SqL K H a (ns.map V.int) → sp [.ref a] H (fun v _ => v = .bl true) fun _ _ _ => False) ∧ ∀ base : Heap, K.In base → base.Ns mainGlobals mg → FnG l.prog w K mg base k fa fd [x] sp) :
    PySem.W.WalkO q loose XP YP l.row.toRowW d [] (fun f vs => PySem.call f vs) := by
  refine Att.attach_call hn hdf fun w s₀ s₁ mg mb fa o pm cd doc a vs ns G Y ho hd hcd hmg hobj hints hlen hg => ?_
  obtain ⟨K, fd, sp, KX, bind, hsp, hF⟩ := F w mg fa _ Y G.T.g hmg
  exact callG KX G.T.g G.T.b G.T.builtins G.T.nolimit hg hobj hints (Nat.le_trans hlen hn2) hr hF bind fun H _ => hsp H a ns hlen
end L2

set_option Elab.async false
set_option linter.all false
set_option maxRecDepth 100000
set_option maxHeartbeats 2000000
/-! the end of a law whose defs show things with repr and make lambdas: guards, and tables of code objects -/
namespace LamX
open PySem PySem.Spec PyProof.Rows L2
section
variable {P : Program} {w : World} {K : PySem.W.Frag} {mg mb : Str → Option Value} {k : Nat} {fa a : Addr} {cs : List (Addr × Addr)} {fd : FuncData} {x : Str} {sp : Sp} {s₁ : Shared} {vs : List Value} {ns : List Int}
abbrev emptyTab : Obj := { cls := .none, data := .fields #[] }
abbrev theScript (vs : List Value) : Obj := { cls := .type "list", data := .seq vs.toArray }
/-- the tables stand beside what H tracks -/
def withTabs (cs : List (Addr × Addr)) (H : Hp) : Hp := fun b => if b ∈ cs.map (·.2) then some (.tbl #[]) else H b
theorem tabs_on {H : Hp} {b : Addr} (h : b ∈ cs.map (·.2)) : withTabs cs H b = some (.tbl #[]) := if_pos h
theorem tabs_off {H : Hp} {b : Addr} (h : b ∉ cs.map (·.2)) : withTabs cs H b = H b := if_neg h
theorem callTG (KX : K.In s₁.heap) (nG : s₁.heap.Ns mainGlobals mg) (nB : s₁.heap.Ns builtinsNs mb) (bb : ∀ x : Str, x ≠ "__name__" → mb x = bootBuiltins x) (nl : s₁.heap.NoLimit) (ng : s₁.gens = #[])
    (tabE : ∀ p ∈ cs, s₁.heap.get? p.2 = some emptyTab) (tabK : ∀ p ∈ cs, K.lookup p.2 = none) (tabC : ∀ p ∈ cs, PySem.W.CodeHd s₁.heap p.1 p.2)
    (bm : ∃ (m : Addr) (o : Obj), mg "__builtins__" = some (.ref m) ∧ m ≠ builtinsNs ∧ s₁.heap.get? m = some o ∧ o.cls = .type "module" ∧ o.dict = some builtinsNs ∧ o.data = .plain)
    (ha : s₁.heap.get? a = some (theScript vs)) (hi : IntsAre vs ns) (hl : ns.length ≤ sizeLine) (hr : Room k callerA)
    (F : ∀ base : Heap, K.In base → base.Ns mainGlobals mg → (∀ p ∈ cs, TabB base mg p.1 p.2) → FnG P w K mg base k fa fd [x] sp) (bind : ∀ (s : Shared) (u : Value), BindsTo s fd ⟨[u], []⟩ [(x, u)])
    (hsp : ∀ H : Hp, (∀ p ∈ cs, H p.2 = some (.tbl #[])) → SqL K H a (ns.map V.int) → sp [.ref a] H (fun v _ => v = .bl true) fun _ _ _ => False) :
    codeAny (model P w) callerA (.call (.ref fa) ⟨[.ref a], []⟩) (fun r s' => r = .ok (.ret (.bool true)) ∧ OldK s₁.heap s'.heap ∧ s'.os = s₁.os ∧ AllBare s'.gens) s₁ := by
  obtain ⟨H0, hO, hS, hok, hA⟩ := start_hp (P := P) (w := w) KX ha hi hl
  have mem : ∀ p ∈ cs, p.2 ∈ cs.map (·.2) := fun p hp => List.mem_map.mpr ⟨p, hp, rfl⟩
  have tE : ∀ b ∈ cs.map (·.2), s₁.heap.get? b = some emptyTab := fun b hb => by
    obtain ⟨p, hp, rfl⟩ := List.mem_map.mp hb
    exact tabE p hp
  have t0 : ∀ b ∈ cs.map (·.2), H0 b = none := fun b hb => by
    by_cases z : H0 b = none
    · exact z
    · have e := tE b hb
      rw [(hA b z).1, ha] at e
      have e2 : Data.seq vs.toArray _ = Data.fields #[] := congrArg Obj.data (Option.some.inj e)
      cases e2
  have sm : Same H0 (withTabs cs H0) := fun b o e => by
    rw [tabs_off fun z => by rw [t0 b z] at e; cases e]
    exact e
  -- nothing else is tracked
  have nothing : ∀ {b : Addr} {o : Obj}, s₁.heap.get? b = some o → o ≠ emptyTab → (b = a → o ≠ theScript vs ∨ K.lookup a ≠ none) → withTabs cs H0 b = none := fun {b o} e h1 h2 => by
    have hb : b ∉ cs.map (·.2) := fun z => h1 (Option.some.inj (e.symm.trans (tE b z)))
    rw [tabs_off hb]
    by_cases z : H0 b = none
    · exact z
    · obtain ⟨rfl, hk⟩ := hA b z
      rcases h2 rfl with n | n
      · exact absurd (Option.some.inj (e.symm.trans ha)) n
      · exact absurd hk n
  have nothingD : ∀ {b : Addr} {o : Obj}, s₁.heap.get? b = some o → o.data ≠ .fields #[] → (∀ ws n, o.data ≠ .seq ws n) → withTabs cs H0 b = none := fun {b o} e h1 h2 =>
    nothing e (fun z => h1 (congrArg Obj.data z)) fun _ => .inl fun z => h2 _ _ (congrArg Obj.data z)
  have spaces : ∀ {b : Addr} {m : Str → Option Value}, s₁.heap.Ns b m → (hidT s₁.heap (withTabs cs H0)).Ns b m := fun {b m} z => by
    obtain ⟨o, es, ep, e, d, r⟩ := z
    refine ⟨o, es, ep, hidT_get e (nothingD e (fun y => ?_) fun _ n y => ?_), d, r⟩
    · rw [d] at y
      cases y
    · rw [d] at y
      cases y
  have inB : K.In (hidT s₁.heap (withTabs cs H0)) := fun b o e => hidT_get (KX b o e) (by
    have hb : b ∉ cs.map (·.2) := fun z => by
      obtain ⟨p, hp, rfl⟩ := List.mem_map.mp z
      rw [tabK p hp] at e
      cases e
    rw [tabs_off hb]
    by_cases z : H0 b = none
    · exact z
    · obtain ⟨rfl, hk⟩ := hA b z
      rw [hk] at e
      cases e)
  have okT : HOk P w (withTabs cs H0) s₁.heap := fun b u z => by
    by_cases hb : b ∈ cs.map (·.2)
    · rw [tabs_on hb] at z
      cases z
      exact tE b hb
    · rw [tabs_off hb] at z
      rcases hO b with y | ⟨ob, xs, y⟩
      · rw [y] at z
        cases z
      · have g := hok b _ y
        rw [y] at z
        cases z
        exact g
  have tabB : ∀ p ∈ cs, TabB (hidT s₁.heap (withTabs cs H0)) mg p.1 p.2 := fun p hp => by
    refine ⟨?_, ?_, fun z => ?_⟩
    · obtain ⟨o, c1, c2, c3, c4, c5, c6, c7, c8, e, q1, q2, q3, q⟩ := tabC p hp
      refine ⟨o, c1, c2, c3, c4, c5, c6, c7, c8, hidT_get e (nothingD e (fun y => ?_) fun _ n y => ?_), q1, q2, q3, q⟩
      · rw [q2] at y
        cases y
        simp at q3
      · rw [q2] at y
        cases y
    · obtain ⟨m, o, b1, b2, b3, b4, b5, b6⟩ := bm
      refine ⟨m, o, b1, b2, fun y => ?_, fun y => ?_, hidT_get b3 (nothingD b3 (fun y => ?_) fun _ n y => ?_), b4, b5, b6⟩
      · obtain ⟨o', es, ep, e, d, _⟩ := nG
        rw [y, e] at b3
        cases b3
        rw [b6] at d
        cases d
      · rw [y, tabE p hp] at b3
        cases b3
        cases b6
      · rw [b6] at y
        cases y
      · rw [b6] at y
        cases y
    · obtain ⟨o', es, ep, e, d, _⟩ := nG
      rw [z, tabE p hp] at e
      cases e
      cases d
  obtain ⟨mc, l1, l2⟩ := nl
  have e0 : Env0 P w K mg (hidT s₁.heap (withTabs cs H0)) callerA [] s₁ (withTabs cs H0) :=
    ⟨rfl, ⟨inB, spaces nG, ⟨mb, spaces nB, bb⟩, ⟨mc, spaces l1, l2⟩⟩, fun b o e => of_hidT e, Nat.le_of_eq (hidT_size _ _), trivial, fun b hb => (by cases hb), okT, .of_eq ng⟩
  have hT : ∀ p ∈ cs, withTabs cs H0 p.2 = some (.tbl #[]) := fun p hp => tabs_on (mem p hp)
  refine codeAny_mono ((F _ inB (spaces nG) tabB).run callerA [] s₁ _ ⟨[.ref a], []⟩ [.ref a] [.ref a] _ _ rfl hr e0 (bind s₁ (.ref a)) (.cons rfl .nil) (hsp _ hT (hS.imp (fun z => z.imp (sm _ _) fun ⟨ob, y⟩ => ⟨ob, sm _ _ y⟩) id))) fun r s' h => ?_
  match r, h with
  | .error e, h => exact h.elim
  | .ok .next, h => exact h.elim
  | .ok .brk, h => exact h.elim
  | .ok .cont, h => exact h.elim
  | .ok (.ret u), ⟨v, H', os, bare, un, hok', rv, q⟩ =>
    cases (show v = V.bl true from q)
    obtain rfl : u = Value.bool true := rv
    have stay : ∀ b o, b ∉ cs.map (·.2) → s₁.heap.get? b = some o → s'.heap.get? b = some o := fun b o nb e => by
      rcases hO b with z | ⟨ob, xs, z⟩
      · exact un.keep b o e ((tabs_off nb).trans z) (fun y => by cases y) (fun y => by cases y)
      · have e1 := (hok b _ z).1
        have e2 := (hok' b _ (un.frzs b ob _ ((tabs_off nb).trans z))).1
        rw [← Option.some.inj (e1.symm.trans e)]
        exact e2
    have more : ∀ p ∈ cs, ∃ us : Array Value, s'.heap.get? p.2 = some { cls := .none, data := .fields us } := fun p hp => by
      obtain ⟨us, z⟩ := un.tbls p.2 #[] (hT p hp)
      exact ⟨_, hok' p.2 _ z⟩
    refine ⟨rfl, ⟨fun b o e => ?_, fun b o e => ?_⟩, os, bare⟩
    · by_cases nb : b ∈ cs.map (·.2)
      · obtain ⟨p, hp, rfl⟩ := List.mem_map.mp nb
        obtain ⟨us, z⟩ := more p hp
        cases (tabE p hp).symm.trans e
        exact .inr (.inl ⟨((tabC p hp).tab (tabE p hp)).isCodeTable, rfl, #[], us, rfl, by rw [Array.empty_append]; exact z⟩)
      · exact .inl (stay b o nb e)
    · by_cases nb : b ∈ cs.map (·.2)
      · obtain ⟨p, hp, rfl⟩ := List.mem_map.mp nb
        exact ⟨_, (more p hp).choose_spec⟩
      · exact ⟨o, stay b o nb e⟩
end
/-- the law's promise at the heap that the head leaves -/
def LawAtG (l : PySem.W.OpenLaw) (w : World) (K : PySem.W.Frag) (k n : Nat) (x : Str) (mg : Str → Option Value) (fa : Addr) (h : Heap) : Prop :=
  ∃ (fd : FuncData) (cs : List (Addr × Addr)) (sp : Sp), (∀ p ∈ cs, h.get? p.2 = some emptyTab ∧ K.lookup p.2 = none ∧ PySem.W.CodeHd h p.1 p.2) ∧ (∀ (s : Shared) (u : Value), BindsTo s fd ⟨[u], []⟩ [(x, u)]) ∧
    (∀ (H : Hp) (a : Addr) (ns : List Int), ns.length ≤ n → (∀ p ∈ cs, H p.2 = some (.tbl #[])) → SqL K H a (ns.map V.int) → sp [.ref a] H (fun v _ => v = .bl true) fun _ _ _ => False) ∧
    ∀ base : Heap, K.In base → base.Ns mainGlobals mg → (∀ p ∈ cs, TabB base mg p.1 p.2) → FnG l.prog w K mg base k fa fd [x] sp
theorem walk_ofTG {l : PySem.W.OpenLaw} {n k : Nat} {q : Program} {loose : List Str} {XP : (Str → Option Value) → Heap → Prop} {YP : World → Heap → Prop} {d : DefRec} {x : Str}
    (hn : l.most = some n) (hn2 : n ≤ sizeLine) (hdf : d.params.defaults = []) (hr : Room k callerA)
    (F : ∀ (w : World) (mg : Str → Option Value) (fa : Addr) (h : Heap), YP w h → h.Ns mainGlobals mg → mg d.name = some (.ref fa) → ∃ K : PySem.W.Frag, K.In h ∧ LawAtG l w K k n x mg fa h) :
    PySem.W.WalkO q loose XP YP l.row.toRowW d [] (fun f vs => PySem.call f vs) := by
  refine Att.attach_call hn hdf fun w s₀ s₁ mg mb fa o pm cd doc a vs ns G Y ho hd hcd hmg hobj hints hlen hg => ?_
  obtain ⟨K, KX, fd, cs, sp, tabs, bind, hsp, hF⟩ := F w mg fa _ Y G.T.g hmg
  exact callTG KX G.T.g G.T.b G.T.builtins G.T.nolimit hg (fun p hp => (tabs p hp).1) (fun p hp => (tabs p hp).2.1) (fun p hp => (tabs p hp).2.2) G.T.bmain hobj hints (Nat.le_trans hlen hn2) hr hF bind fun H hT => hsp H a ns hlen hT
end LamX

set_option Elab.async false
set_option linter.all false
set_option maxRecDepth 100000
set_option maxHeartbeats 8000000
namespace Fp
open PySem PySem.Spec PyProof.Rows L2
theorem many_cut {rs : Rs} {i : Nat} {r : Addr × Addr × Tb} (e : rs[i]? = some r) (x : Addr × Addr × Tb) : manyR (rs.take i ++ [x] ++ rs.drop (i + 1)) * sz r.2.2 = manyR rs * sz x.2.2 := by
  rw [many_split e, manyR_app, manyR_app, manyR_one]
  simp only [Nat.mul_assoc, Nat.mul_comm, Nat.mul_left_comm]
theorem many_take {rs : Rs} {i : Nat} {r : Addr × Addr × Tb} (e : rs[i]? = some r) : manyR (rs.take i ++ rs.drop (i + 1)) ≤ manyR rs := by
  rw [many_split e, manyR_app]
  exact Nat.mul_le_mul_right _ (Nat.le_mul_of_pos_right _ (sz_pos _))
theorem many_two {rs : Rs} {i : Nat} {r r' : Addr × Addr × Tb} (e : rs[i]? = some r) (e' : rs[i + 1]? = some r') (x : Addr × Addr × Tb) (hx : sz x.2.2 ≤ sz r.2.2 * sz r'.2.2) : manyR (rs.take i ++ [x] ++ rs.drop (i + 2)) ≤ manyR rs := by
  have e2 : (rs.drop (i + 1))[0]? = some r' := by rw [List.getElem?_drop]; exact e'
  have h2 : manyR (rs.drop (i + 1)) = sz r'.2.2 * manyR (rs.drop (i + 2)) := by
    rw [many_split e2, List.take_zero, manyR_nil, Nat.one_mul, List.drop_drop]
  rw [many_split e, h2, manyR_app, manyR_app, manyR_one, Nat.mul_assoc, Nat.mul_assoc]
  refine Nat.mul_le_mul_left _ ?_
  rw [← Nat.mul_assoc]
  exact Nat.mul_le_mul_right _ hx
section
variable {P : Program} {w : World} {K : PySem.W.Frag} {mg : Str → Option Value} {base : Heap}
def spLaw (K : PySem.W.Frag) : Sp := fun vs H Q _ => ∃ (a : Addr) (ns : List Int), vs = [.ref a] ∧ LamX.Tabs (TT K) H ∧ SqL K H a (ns.map V.int) ∧ ∀ H', Q (.bl true) H'
abbrev nLaw : List Str := ["_law_script", "_law_tape_here", "_law_clock_here", "_law_letters_here", "_law_bench", "_law_row", "_law_deeds", "_law_turn", "_law_way", "_law_at", "_law_told", "_law_bag", "_law_word_here", "_law_number"]
theorem sc_law : FnScope nLaw ["_law_script"] (defScope s_law) := ⟨rfl, rfl, rfl, by decide +kernel, rfl, by decide +kernel, by decide +kernel⟩
theorem ok_law (T : Top K mg) (TB : LamX.TabB base mg (He.cT K dPr).1 (He.cT K dPr).2) {fd : FuncData} (F : FnP K "law" "law" s_law (He.fAd K ("law", none)) fd) : FnG P w K mg base 11 (He.ga K "law") fd ["_law_script"] (spLaw K) := by
  refine F.okG sc_law (fun vs H Q E h => ?_) (fun cdv A outer s H vs Q E hG hr h => ?_)
  · obtain ⟨a, ns, rfl, _⟩ := h
    rfl
  · obtain ⟨a, ns, rfl, tb, hS, q⟩ := h
    have nd := sc_law.nd
    have hs : sizeLine = 16777216 := sizeLine_eq
    have hr1 : Room 1 _ := hr.mono (by decide)
    have hr2 : Room 2 _ := hr.mono (by decide)
    have hr3 : Room 3 _ := hr.mono (by decide)
    have hr4 : Room 4 _ := hr.mono (by decide)
    have hr5 : Room 5 _ := hr.mono (by decide)
    have hr6 : Room 6 _ := hr.mono (by decide)
    obtain ⟨fdl, Fl, bl⟩ := (okM_lay (P := P) (w := w) (base := base) T).ex
    have hrl := hr2
    obtain ⟨fdt, Ft, bt⟩ := (okM_take (P := P) (w := w) (base := base) T).ex
    have hrt := hr4
    obtain ⟨fdf, Ff, bf_⟩ := (okM_fuse (P := P) (w := w) (base := base) T).ex
    have hrf : Room 9 _ := hr.mono (by decide)
    have bf := bf_
    obtain ⟨fdp, Fp_, bp⟩ := (okM_put (P := P) (w := w) (base := base) T).ex
    have Fp := Fp_
    have hrp : Room 8 _ := hr.mono (by decide)
    refine ⟨_, PSs.nox (pss_cons (ps_set (i := 1) nd rfl (by first | exact Or.inl rfl | exact Or.inr rfl) (pc (ok_tape T) hr1 (pa_cons (pv 0) pa_nil)))
      (pss_cons (ps_set (i := 2) nd rfl (by first | exact Or.inl rfl | exact Or.inr rfl) (pc (ok_ck T) hr2 (pa_cons (pv 1) pa_nil)))
      (pss_cons (ps_set (i := 3) nd rfl (by first | exact Or.inl rfl | exact Or.inr rfl) (pc (ok_ltr T) hr2 (pa_cons (pv 1) pa_nil)))
      (pss_cons (ps_set (i := 4) nd rfl (by first | exact Or.inl rfl | exact Or.inr rfl) (pbench T hr5 (pa_cons (pv 2) pa_nil)))
      (pss_cons (ps_par (i := 5) (j := 6) rfl nd rfl rfl (by decide) rfl rfl (pa_cons (pe_lst pa_nil) (pa_cons pe_int pa_nil)) rfl)
      (pss_cons (ps_for PassesOwn.never rfl (pi_range1 (by rfl) (f_range T) (pa_cons pe_int pa_nil)) (pg_name (i := 7) nd rfl (by first | exact Or.inl rfl | exact Or.inr rfl))
        (pss_cons (ps_set (i := 8) nd rfl (by first | exact Or.inl rfl | exact Or.inr rfl) (pc (ok_pick T) hr1 (pa_cons (pv 1) (pa_cons pe_int pa_nil))))
      (pss_cons (ps_set (i := 9) nd rfl (by first | exact Or.inl rfl | exact Or.inr rfl) (pc (ok_pick T) hr1 (pa_cons (pv 1) (pa_cons (pe_callB (call_max2 rfl) (by rfl) (f_max T) (by decide +kernel) (pa_cons pe_int (pa_cons (pe_callB call_len_seq (by rfl) (f_len T) PySem.boot_len (pa_cons (pv 5) pa_nil)) pa_nil))) pa_nil))))
      (pss_cons (ps_set (i := 10) nd rfl (by first | exact Or.inl rfl | exact Or.inr rfl) pe_non)
      (pss_cons (PS.weak (t' := tDeed K) (ps_if (PT.weak (t' := tCond1 K) (PW.pt (pw_or (PW.pt (pw_and (pt_cmpR op_lt (pv 8) pe_int (nomark _)) (pw_and (pt_cmpR op_lt (pe_callB call_len_seq (by rfl) (f_len T) PySem.boot_len (pa_cons (pv 5) pa_nil)) pe_int (nomark _)) (pw_and1 (pt_cmpR op_lt (pc (ok_many T) hr1 (pa_cons (pv 5) pa_nil)) pe_int (nomark _)))))) (pw_or1 (pt_cmpR op_eq (pe_callB call_len_seq (by rfl) (f_len T) PySem.boot_len (pa_cons (pv 5) pa_nil)) pe_int (nomark _))))) ?w1) (pss_cons (ps_expr (pe_bm PySem.F.plainAttrs_list PySem.F.slot_list_append PySem.F.type_list_append mt_append (pv 5) (pa_cons (pc (ok_sparse T) hr4 (pa_cons (pv 1) (pa_cons (pv 2) (pa_cons (pv 3) (pa_cons pe_int (pa_cons pe_int pa_nil)))))) pa_nil)))
      (pss_cons (ps_set (i := 11) nd rfl (by first | exact Or.inl rfl | exact Or.inr rfl) (pbag T hr6 (pa_cons (pv 2) (pa_cons (pe_ix ix_list (pv 5) (pe_un un_neg pe_int) (fun _ _ => rfl)) pa_nil))))
      (pss_cons (ps_set (i := 10) nd rfl (by first | exact Or.inl rfl | exact Or.inr rfl) (pe_meth (pv 4) (cls_Bench T) (m_Bench_lay T) Fl hrl bl .nil pass0 (pa_cons (pv 11) pa_nil)))
      (pss_cons (ps_set (i := 6) nd rfl (by first | exact Or.inl rfl | exact Or.inr rfl) (pe_op op_add (pv 6) pe_int))
      (pss_one (ps_if (pt_not (pt_val (pc_is T TB hG hr3 (pa_cons (pv 11) (pa_cons (pv 2) (pa_cons (pe_ix ix_list (pv 5) (pe_un un_neg pe_int) (fun _ _ => rfl)) pa_nil)))))) (pss_one (ps_ret pe_bl)) pss_nil)))))) (pss_one (ps_if (pt_cmpR op_eq (pv 8) pe_int (nomark _)) (pss_cons (ps_expr (pe_bm PySem.F.plainAttrs_list PySem.F.slot_list_pop PySem.F.type_list_pop mt_popAt (pv 5) (pa_cons (pv 9) pa_nil)))
      (pss_cons (ps_set (i := 10) nd rfl (by first | exact Or.inl rfl | exact Or.inr rfl) (pe_meth (pv 4) (cls_Bench T) (m_Bench_take T) Ft hrt bt .nil pass0 (pa_cons (pv 9) pa_nil)))
      (pss_one (ps_set (i := 6) nd rfl (by first | exact Or.inl rfl | exact Or.inr rfl) (pe_op op_add (pv 6) pe_int))))) (pss_one (ps_if (PT.weak (t' := tCond3 K) (PW.pt (pw_and (pt_cmpR op_eq (pv 8) pe_int (nomark _)) (pw_and (pt_cmpR op_lt (pe_op op_add (pv 9) pe_int) (pe_callB call_len_seq (by rfl) (f_len T) PySem.boot_len (pa_cons (pv 5) pa_nil)) (nomark _)) (pw_and1 (pt_val (pc (ok_room7 T) hr2 (pa_cons (pv 5) (pa_cons (pv 9) pa_nil)))))))) ?w3) (pss_cons (ps_set (i := 5) nd rfl (by first | exact Or.inl rfl | exact Or.inr rfl) (pe_op op_cat (pe_op op_cat (pe_slice sl_list (pv 5) po_none (po_some (pv 9))) (pe_lst (pa_cons (pc (ok_lprod T) hr2 (pa_cons (pv 2) (pa_cons (pe_ix ix_list (pv 5) (pv 9) (fun _ _ => rfl)) (pa_cons (pe_ix ix_list (pv 5) (pe_op op_add (pv 9) pe_int) (fun _ _ => rfl)) pa_nil)))) pa_nil))) (pe_slice sl_list (pv 5) (po_some (pe_op op_add (pv 9) pe_int)) po_none)))
      (pss_cons (ps_set (i := 10) nd rfl (by first | exact Or.inl rfl | exact Or.inr rfl) (pe_meth (pv 4) (cls_Bench T) (m_Bench_fuse T) Ff hrf bf .nil pass0 (pa_cons (pv 9) pa_nil)))
      (pss_one (ps_set (i := 6) nd rfl (by first | exact Or.inl rfl | exact Or.inr rfl) (pe_op op_add (pv 6) pe_int))))) (pss_one (ps_if (PT.weak (t' := tCond4 K) (PW.pt (pw_and (pt_cmpR op_gt (pv 8) pe_int (nomark _)) (pw_and1 (pt_cmpR op_lt (pc (ok_many T) hr1 (pa_cons (pv 5) pa_nil)) pe_int (nomark _))))) ?w4) (pss_cons (ps_set (i := 12) nd rfl (by first | exact Or.inl rfl | exact Or.inr rfl) (pe_ix ix_list (pe_op op_cat (pe_callTy (call_listD rfl) (by rfl) (f_list T) (by decide +kernel) (pa_cons (pe_ix ix_list (pv 5) (pv 9) (fun _ _ => rfl)) pa_nil)) (pe_lst (pa_cons (pc (ok_wrd T) hr3 (pa_cons (pv 1) (pa_cons (pv 3) (pa_cons pe_int pa_nil)))) (pa_cons pe_str (pa_cons (pe_op op_mulZt pe_str pe_int) pa_nil))))) (pc (ok_pick T) hr1 (pa_cons (pv 1) (pa_cons (pe_op op_add (pe_callB call_lenD (by rfl) (f_len T) PySem.boot_len (pa_cons (pe_ix ix_list (pv 5) (pv 9) (fun _ _ => rfl)) pa_nil)) pe_int) pa_nil))) (fun _ _ => rfl)))
      (pss_cons (ps_set (i := 13) nd rfl (by first | exact Or.inl rfl | exact Or.inr rfl) (pc (ok_pick T) hr1 (pa_cons (pv 1) (pa_cons (pv 2) pa_nil))))
      (pss_cons (ps_asg (pc (ok_lsum T) hr1 (pa_cons (pv 2) (pa_cons (pe_ix ix_list (pv 5) (pv 9) (fun _ _ => rfl)) (pa_cons (pe_disp (pps_cons (pv 12) (pv 13) pps_nil) (by rfl) (by rfl) (fun z => by cases z) (by decide)) pa_nil)))) (pg_sub (pv 5) (pv 9) set_list))
      (pss_cons (ps_set (i := 10) nd rfl (by first | exact Or.inl rfl | exact Or.inr rfl) (pe_meth (pv 4) (cls_Bench T) (m_Bench_put T) Fp hrp bp .nil pass0 (pa_cons (pv 9) (pa_cons (pv 12) (pa_cons (pv 13) pa_nil)))))
      (pss_one (ps_set (i := 6) nd rfl (by first | exact Or.inl rfl | exact Or.inr rfl) (pe_op op_add (pv 6) pe_int))))))) pss_nil))))))) ?wD)
      (pss_one (ps_if (PW.pt (pw_or (pt_cmpR op_notN (pv 10) pe_non (nomark _)) (pw_or1 (pt_not (pt_val (pc_told T TB hG hr (pa_cons (pv 4) (pa_cons (pv 2) (pa_cons (pv 5) (pa_cons (pv 6) pa_nil)))))))))) (pss_one (ps_ret pe_bl)) pss_nil)))))))
      (pss_one (ps_ret pe_bl)))))))), ?_⟩
    case w1 =>
      rintro σ H Q ⟨x0, x1, x2, x3, x4, x6, x7, x9, x10, x11, x12, x13, R, c, rs, w, rfl, rw_, hl, hm, q⟩
      refine ⟨_, rfl, _, _, rfl, rfl, _, rfl, ite2 (fun h1 => ?_) (fun h1 => iteF ?_)⟩
      rotate_left
      refine ⟨_, rfl, R, _, rfl, .inl (SqL.of rw_.row), rfl, _, rfl, q _ (fun hk => ?_) (fun hk hz => ?_)⟩
      · have h0 : rs.length = 0 := by
          have := of_decide_eq_true hk
          injection this with this
          rw [List.length_map] at this
          omega
        have hz : rs = [] := List.length_eq_zero_iff.mp h0
        subst hz
        exact ⟨by decide, by rw [manyR_nil]; decide⟩
      · subst hz
        exact absurd hk (by decide)
      refine ⟨_, rfl, R, _, rfl, .inl (SqL.of rw_.row), _, _, rfl, rfl, _, rfl, ite2 (fun h2 => ?_) (fun h2 => iteF ?_)⟩
      rotate_left
      refine ⟨_, rfl, R, _, rfl, .inl (SqL.of rw_.row), rfl, _, rfl, q _ (fun hk => ?_) (fun hk hz => ?_)⟩
      · have h0 : rs.length = 0 := by
          have := of_decide_eq_true hk
          injection this with this
          rw [List.length_map] at this
          omega
        have hz : rs = [] := List.length_eq_zero_iff.mp h0
        subst hz
        exact ⟨by decide, by rw [manyR_nil]; decide⟩
      · subst hz
        exact absurd hk (by decide)
      refine ⟨_, rfl, R, c, rs, rfl, rw_, by omega, _, _, rfl, rfl, _, rfl, ite2 (fun h3 => q true (fun _ => ⟨?_, ?_⟩) (fun z => absurd z (by decide))) (fun h3 => ?_)⟩
      · have := of_decide_eq_true h2
        rw [List.length_map] at this
        omega
      · have := of_decide_eq_true h3
        omega
      refine ⟨_, rfl, R, _, rfl, .inl (SqL.of rw_.row), rfl, _, rfl, q _ (fun hk => ?_) (fun hk hz => ?_)⟩
      · have h0 : rs.length = 0 := by
          have := of_decide_eq_true hk
          injection this with this
          rw [List.length_map] at this
          omega
        have hz : rs = [] := List.length_eq_zero_iff.mp h0
        subst hz
        exact ⟨by decide, by rw [manyR_nil]; decide⟩
      · subst hz
        exact absurd hk (by decide)
    case w3 =>
      rintro σ H Q ⟨x0, x1, x2, x3, x4, x6, x7, x10, x11, x12, x13, R, c, rs, w, i, rfl, rw_, hl, hm, q⟩
      refine ⟨_, rfl, rfl, _, rfl, ite2 (fun h1 => ?_) (fun h1 => q H false (Same.refl H) (fun z => absurd z Bool.false_ne_true))⟩
      refine ⟨_, rfl, _, _, rfl, rfl, _, rfl, R, _, rfl, .inl (SqL.of rw_.row), _, _, rfl, rfl, _, rfl, ite2 (fun h2 => ?_) (fun h2 => q H false (Same.refl H) (fun z => absurd z Bool.false_ne_true))⟩
      have h2' := of_decide_eq_true h2
      rw [List.length_map] at h2'
      have i1 : i < rs.length := by omega
      have i2 : i + 1 < rs.length := by omega
      have e1 : rs[i]? = some rs[i] := List.getElem?_eq_getElem i1
      have e2 : rs[i + 1]? = some rs[i + 1] := List.getElem?_eq_getElem i2
      exact ⟨_, rfl, _, rfl, R, c, rs, i, _, _, rfl, rw_, e1, e2, by omega, fun H1 v s1 hv => ⟨v, rfl, q H1 v s1 fun z => ⟨_, _, e1, e2, hv z⟩⟩⟩
    case w4 =>
      rintro σ H Q ⟨x0, x1, x2, x3, x4, x6, x7, x9, x10, x11, x12, x13, R, c, rs, w, rfl, rw_, hm, q⟩
      refine ⟨_, rfl, _, _, rfl, rfl, _, rfl, ite2 (fun h1 => ?_) (fun h1 => q false (fun z => absurd z Bool.false_ne_true))⟩
      refine ⟨_, rfl, R, c, rs, rfl, rw_, by omega, _, _, rfl, rfl, _, rfl, q _ fun hk => ?_⟩
      have := of_decide_eq_true hk
      omega
    case wD =>
      rintro D σ H ⟨x0, x7, x11, x12, x13, h, ca, q', past, R, c, z, rs, n, i, w, rfl, sx, hck, hz, hz1, hz3, hn, hi, next⟩
      obtain ⟨hc2, hc7⟩ := ck_range hck
      have hc0 : 0 < c := by omega
      have hlen := sx.len
      have hmany := sx.many
      refine ⟨_, _, _, _, _, _, _, _, _, _, _, _, R, c, rs, w, rfl, sx.rw, hlen, hmany, fun k hk1 hk2 => ?_⟩
      cases k with
      | true =>
        refine iteT ?_
        obtain ⟨g1, g2⟩ := hk1 rfl
        refine ⟨_, rfl, .inl ⟨rfl, _, SqL.of sx.eR⟩, _, rfl, _, rfl, _, rfl, h, ca, c, z, 3, 4, rfl, sx.cr.tape, hc2, hc7, hz, hz1, by omega, by decide, by decide, fun H1 d l hh1 k1 nd1 e1 v1 => ?_⟩
        have sx1 := sx.tape' hh1 k1
        have ndd : ∀ z ∈ rs, d ≠ z.2.1 := fun z hz e => by
          have := sx.bs.dic z hz
          rw [← e, nd1] at this
          cases this
        refine ⟨R, _, _, rfl, rfl, sx1.eR, by rw [List.length_map]; omega, ?_⟩
        have kR : But R H1 (upd H1 R (.lst ((rs.map fun r => V.ref r.2.1) ++ [.ref d]))) := but_upd
        have cr2 := sx1.cr.row ⟨_, sx1.eR⟩ kR sx1.nR
        have bs2 := sx1.bs.but ⟨_, sx1.eR⟩ kR
        have e2 := kR _ _ e1 (ne_of e1 sx1.eR (by intro y; cases y))
        have eR2 : (upd H1 R (.lst ((rs.map fun r => V.ref r.2.1) ++ [.ref d]))) R = some (.lst ((rs.map fun r => V.ref r.2.1) ++ [.ref d])) := upd_same
        generalize upd H1 R (.lst ((rs.map fun r => V.ref r.2.1) ++ [.ref d])) = H2 at kR cr2 bs2 e2 eR2 ⊢
        refine ⟨_, rfl, _, rfl, _, rfl, R, _, _, _, rfl, rfl, SqL.of eR2, atI_last _ _, ?_⟩
        refine fun b dxb hxb hdxb neb => ⟨b, d, dxb, c, l, rfl, upd_same, hck, made_dict e2 hxb hdxb, v1.mono (by decide) (by decide), fun H3 kb hb => ⟨rfl, ?_⟩⟩
        have s3 := made_same kb hxb hdxb
        have cr3 := cr2.same s3
        have bs3 := bs2.same s3
        obtain ⟨row, ps, bn3, hps⟩ := id cr3.bn
        obtain ⟨dx, h1⟩ := bn3.at_
        refine ⟨_, rfl, q', dx, _, rfl, h1, bf_none _ _ _ _, _, rfl, q', row, past, b, c, _, ps, canon l, rfl, bn3, hb, by rw [List.length_map]; omega, by omega, fun H4 row' k4 bn4 => ?_⟩
        have cr4 := cr3.deed k4 bn4 (m := n + 1) (by rw [List.length_append, hps]; rfl)
        have bs4 := bs3.deed cr3 k4
        have e4 := k4 _ _ (s3 _ _ e2) (ne_of (s3 _ _ e2) h1 (by intro y; cases y)) (ne_of (s3 _ _ e2) bn3.past (by intro y; cases y))
        have eR4 := k4 _ _ (s3 _ _ eR2) (ne_of (s3 _ _ eR2) h1 (by intro y; cases y)) sx1.nR.1
        have hb4 := hb.but2 ⟨dx, _, _, _, h1⟩ ⟨_, bn3.past⟩ k4
        have vz : VT c 12 (sz l) l := v1.of (fun p hp => Nat.le_trans (v1.wd p hp).2 (by decide)) (by unfold sz; omega)
        have szl : sz l ≤ 3 := by have := v1.ln; unfold sz; omega
        have bs5 := Bs.ins (xs := rs) (ys := []) (by rw [List.append_nil]; exact bs4) (r := (b, d, l)) hb4 e4 vz (by rw [List.append_nil]; exact ndd)
        rw [List.append_nil] at bs5
        have eas : rs.map (·.1) ++ [b] = (rs ++ [(b, d, l)]).map (·.1) := by rw [List.map_append]; rfl
        rw [eas] at cr4
        have hml : manyR (rs ++ [(b, d, l)]) ≤ 78 := by
          rw [manyR_app, manyR_one]
          have : manyR rs * sz l ≤ 19 * 3 := Nat.mul_le_mul (by omega) szl
          show manyR rs * sz l ≤ 78
          omega
        have sx4 : Sx K H4 h ca q' past R c (rs ++ [(b, d, l)]) (n + 1) := ⟨cr4, bs5, by rw [eR4, List.map_append]; rfl, sx1.nR, by rw [List.length_append]; show rs.length + 1 ≤ 6; omega, hml⟩
        refine ⟨_, rfl, _, _, rfl, rfl, ?_⟩
        refine ⟨_, rfl, _, rfl, _, rfl, _, rfl, R, _, _, _, rfl, rfl, SqL.of eR4, atI_last _ _, b, d, c, 12, sz l, l, rfl, cr4.tb, hb4, e4, by omega, vz, vt_canon vz, by omega, fun H5 x5 tb5 => ⟨true, rfl, iteF ?_⟩⟩
        exact next H5 R _ (n + 1) _ _ _ (sx4.ext x5 tb5) (Nat.le_refl _)
      | false =>
        refine iteF ?_
        have il : i < rs.length := hi (hk2 rfl)
        clear hk1 hk2
        refine ⟨_, rfl, rfl, _, rfl, ite2 (fun h2 => ?_) (fun h2 => ?_)⟩
        · have e : rs[i]? = some rs[i] := List.getElem?_eq_getElem il
          generalize rs[i] = r at e
          refine ⟨_, rfl, .inl ⟨rfl, _, SqL.of sx.eR⟩, _, rfl, R, _, (i : Int), i, V.ref r.2.1, rfl, rfl, sx.eR, by omega, by omega, by rw [List.length_map, PySem.seqIndex_of (by omega) (by omega), Int.toNat_natCast], by rw [List.getElem?_map, e]; rfl, ?_⟩
          have eer : (rs.map fun r => V.ref r.2.1).eraseIdx i = (rs.take i ++ rs.drop (i + 1)).map fun r => V.ref r.2.1 := by
            rw [List.eraseIdx_eq_take_drop_succ, List.map_append, List.map_take, List.map_drop]
          rw [eer]
          have kR : But R H (upd H R (.lst ((rs.take i ++ rs.drop (i + 1)).map fun r => V.ref r.2.1))) := but_upd
          have cr2 := sx.cr.row ⟨_, sx.eR⟩ kR sx.nR
          have bs2 := sx.bs.but ⟨_, sx.eR⟩ kR
          have eR2 : (upd H R (.lst ((rs.take i ++ rs.drop (i + 1)).map fun r => V.ref r.2.1))) R = _ := upd_same
          generalize upd H R (.lst ((rs.take i ++ rs.drop (i + 1)).map fun r => V.ref r.2.1)) = H2 at kR cr2 bs2 eR2 ⊢
          obtain ⟨row, ps, bn3, hps⟩ := id cr2.bn
          obtain ⟨dx, h1⟩ := bn3.at_
          refine ⟨_, rfl, q', dx, _, rfl, h1, bf_none _ _ _ _, _, rfl, q', row, past, c, _, ps, i, rfl, bn3, by rw [List.length_map]; exact il, by rw [List.length_map]; omega, by omega, fun H4 row' k4 bn4 => ?_⟩
          have cr4 := cr2.deed k4 bn4 (m := n + 1) (by rw [List.length_append, hps]; rfl)
          have bs4 := bs2.deed cr2 k4
          have eR4 := k4 _ _ eR2 (ne_of eR2 h1 (by intro y; cases y)) sx.nR.1
          rw [← List.map_take, ← List.map_drop, ← List.map_append] at cr4
          refine ⟨_, rfl, _, _, rfl, rfl, ?_⟩
          refine next H4 R _ (n + 1) _ _ _ ⟨cr4, bs4.sub (cut_sub rs (by omega)), eR4, sx.nR, ?_, Nat.le_trans (many_take e) hmany⟩ (Nat.le_refl _)
          rw [List.length_append, List.length_take, List.length_drop]
          omega
        refine ⟨_, _, _, _, _, _, _, _, _, _, _, R, c, rs, w, i, rfl, sx.rw, hlen, hmany, fun H1 k s1 hk => ?_⟩
        have sx1 := sx.same s1
        cases k with
        | true =>
          refine iteT ?_
          obtain ⟨r, r', e, e', hll, hww⟩ := hk rfl
          clear hk sx
          have il2 : i + 1 < rs.length := (List.getElem?_eq_some_iff.mp e').1
          have m1 := List.mem_of_getElem? e
          have m2 := List.mem_of_getElem? e'
          have gi : (rs.map fun r => V.ref r.2.1)[i]? = some (V.ref r.2.1) := by rw [List.getElem?_map, e]; rfl
          have gi' : (rs.map fun r => V.ref r.2.1)[i + 1]? = some (V.ref r'.2.1) := by rw [List.getElem?_map, e']; rfl
          have lm : (rs.map fun r => V.ref r.2.1).length = rs.length := List.length_map _
          have nrr : r.2.1 ≠ r'.2.1 := fun z => by
            have : i = i + 1 := (List.getElem?_inj (by rw [List.length_map]; exact il) sx1.bs.nd).mp (by rw [List.getElem?_map, List.getElem?_map, e, e']; exact congrArg some z)
            omega
          have v1 := sx1.bs.vt r m1
          have v2 := sx1.bs.vt r' m2
          have z1 := sz_le_many e
          have z2 := sz_le_many e'
          have kk : sz r.2.2 * sz r'.2.2 ≤ 78 * 78 := Nat.mul_le_mul (by omega) (by omega)
          refine ⟨_, rfl, _, rfl, _, rfl, R, _, rfl, SqL.of sx1.eR, fun p1 np1 => ?_⟩
          rw [cut_to (by rw [lm]; omega)]
          have sx2 := sx1.same (same_upd (o := .lst ((rs.map fun r => V.ref r.2.1).take i)) np1)
          have ep1 : (upd H1 p1 (.lst ((rs.map fun r => V.ref r.2.1).take i))) p1 = some (.lst ((rs.map fun r => V.ref r.2.1).take i)) := upd_same
          generalize upd H1 p1 (.lst ((rs.map fun r => V.ref r.2.1).take i)) = H2 at sx2 ep1 ⊢
          refine ⟨_, rfl, _, rfl, _, rfl, R, _, _, _, rfl, rfl, SqL.of sx2.eR, atI_nat gi, _, rfl, _, rfl, _, _, rfl, rfl, R, _, _, _, rfl, rfl, SqL.of sx2.eR, atI_nat (j := i + 1) gi', ?_⟩
          refine ⟨r.2.1, r'.2.1, c, 12, sz r.2.2, 12, sz r'.2.2, r.2.2, r'.2.2, rfl, hc0, hc7, nrr, sx2.bs.dic r m1, sx2.bs.dic r' m2, v1, v2, by decide, by decide, by omega, fun H3 d s3 nd3 e3 => ⟨by show 1 ≤ sizeLine; omega, fun p2 np2 => ?_⟩⟩
          have ndd : ∀ z ∈ rs, d ≠ z.2.1 := fun z hz e => by
            have := sx2.bs.dic z hz
            rw [← e, nd3] at this
            cases this
          have s4 := same_upd (o := .lst [V.ref d]) np2
          have ep2 : (upd H3 p2 (.lst [V.ref d])) p2 = some (.lst [V.ref d]) := upd_same
          have sx4 := (sx2.same s3).same s4
          have ep1' := s4 _ _ (s3 _ _ ep1)
          have e4 := s4 _ _ e3
          generalize upd H3 p2 (.lst [V.ref d]) = H4 at s4 ep2 sx4 ep1' e4 ⊢
          refine ⟨p1, p2, _, _, rfl, rfl, ep1', ep2, by rw [List.length_take]; show _ + 1 ≤ sizeLine; omega, fun p3 np3 => ?_⟩
          have s5 := same_upd (o := .lst ((rs.map fun r => V.ref r.2.1).take i ++ [V.ref d])) np3
          have ep3 : (upd H4 p3 (.lst ((rs.map fun r => V.ref r.2.1).take i ++ [V.ref d]))) p3 = _ := upd_same
          have sx5 := sx4.same s5
          have e5 := s5 _ _ e4
          generalize upd H4 p3 (.lst ((rs.map fun r => V.ref r.2.1).take i ++ [V.ref d])) = H5 at s5 ep3 sx5 e5 ⊢
          refine ⟨_, rfl, _, rfl, _, _, rfl, rfl, _, rfl, R, _, rfl, SqL.of sx5.eR, fun p4 np4 => ?_⟩
          rw [show ((i : Int) + 2) = ((i + 2 : Nat) : Int) from rfl, cut_from (by rw [lm]; omega)]
          have s6 := same_upd (o := .lst ((rs.map fun r => V.ref r.2.1).drop (i + 2))) np4
          have ep4 : (upd H5 p4 (.lst ((rs.map fun r => V.ref r.2.1).drop (i + 2)))) p4 = _ := upd_same
          have sx6 := sx5.same s6
          have e6 := s6 _ _ e5
          have ep3' := s6 _ _ ep3
          generalize upd H5 p4 (.lst ((rs.map fun r => V.ref r.2.1).drop (i + 2))) = H6 at s6 ep4 sx6 e6 ep3' ⊢
          refine ⟨p3, p4, _, _, rfl, rfl, ep3', ep4, by rw [List.length_append, List.length_take, List.length_drop]; show _ + 1 + _ ≤ sizeLine; omega, fun p5 np5 => ?_⟩
          have s7 := same_upd (o := .lst ((rs.map fun r => V.ref r.2.1).take i ++ [V.ref d] ++ (rs.map fun r => V.ref r.2.1).drop (i + 2))) np5
          have ep5 : (upd H6 p5 (.lst ((rs.map fun r => V.ref r.2.1).take i ++ [V.ref d] ++ (rs.map fun r => V.ref r.2.1).drop (i + 2)))) p5 = _ := upd_same
          have sx7 := sx6.same s7
          have e7 := s7 _ _ e6
          have nR5 : p5 ≠ past ∧ p5 ≠ h ∧ p5 ≠ ca := by
            obtain ⟨row, ps, b3, _⟩ := sx6.cr.bn
            obtain ⟨cs, a, l, sd, tn, t1, t2, _⟩ := sx6.cr.tape
            exact ⟨(ne_of_none b3.past np5).symm, (ne_of_none t1 np5).symm, (ne_of_none t2 np5).symm⟩
          generalize upd H6 p5 (.lst ((rs.map fun r => V.ref r.2.1).take i ++ [V.ref d] ++ (rs.map fun r => V.ref r.2.1).drop (i + 2))) = H7 at s7 ep5 sx7 e7 ⊢
          clear np1 np2 np3 np4 np5 ep1 ep2 ep3 ep4 sx6 sx5 sx4 sx2 s3 s4 s5 s6 s7 e6 e5 e4 e3 ep1' ep3'
          obtain ⟨row, ps, bn3, hps⟩ := id sx7.cr.bn
          obtain ⟨dx, h1⟩ := bn3.at_
          refine ⟨_, rfl, q', dx, _, rfl, h1, bf_none _ _ _ _, _, rfl, q', row, past, r.1, r'.1, c, sz r.2.2, sz r'.2.2, r.2.2, r'.2.2, _, ps, i, rfl, bn3, by rw [List.getElem?_map, e]; rfl, by rw [List.getElem?_map, e']; rfl, ⟨sx7.bs.bag r m1, v1⟩, ⟨sx7.bs.bag r' m2, v2⟩, hck, by omega, by rw [List.length_map]; omega, by omega, fun H8 row' b t k8 bn8 hb8 lk8 => ?_⟩
          have cr8 := sx7.cr.deed k8 bn8 (m := n + 1) (by rw [List.length_append, hps]; rfl)
          have bs8 := (sx7.bs.deed sx7.cr k8).sub (cut_sub rs (show i ≤ i + 2 by omega))
          have e8 := k8 _ _ e7 (ne_of e7 h1 (by intro y; cases y)) (ne_of e7 bn3.past (by intro y; cases y))
          have ep8 := k8 _ _ ep5 (ne_of ep5 h1 (by intro y; cases y)) nR5.1
          obtain ⟨w1, w2⟩ := prodC_vt (m := 12) (k := r.2.2.length * r'.2.2.length) hc0 v1 v2 hww (Nat.le_refl _)
          have hcn : canon t = canon (prodC c r.2.2 r'.2.2) := lk_same hc0 hb8.2 w1 (lk8.trans w2.symm)
          have hb9 := hb8.1
          rw [hcn] at hb9
          have wl := w1.ln
          have vz : VT c 12 (sz (prodC c r.2.2 r'.2.2)) (prodC c r.2.2 r'.2.2) := w1.of (fun p hp => (w1.wd p hp).2) (by unfold sz; omega)
          have szp : sz (prodC c r.2.2 r'.2.2) ≤ sz r.2.2 * sz r'.2.2 := by
            have a1 : r.2.2.length * r'.2.2.length ≤ sz r.2.2 * sz r'.2.2 := Nat.mul_le_mul v1.ln v2.ln
            have a2 : 1 * 1 ≤ sz r.2.2 * sz r'.2.2 := Nat.mul_le_mul (sz_pos _) (sz_pos _)
            show max 1 _ ≤ _
            omega
          have bs9 := Bs.ins (xs := rs.take i) (ys := rs.drop (i + 2)) bs8 (r := (b, d, prodC c r.2.2 r'.2.2)) hb9 e8 vz (fun z hz => ndd z ((cut_sub rs (show i ≤ i + 2 by omega)).subset hz))
          have eas : (rs.map (·.1)).take i ++ [b] ++ (rs.map (·.1)).drop (i + 2) = (rs.take i ++ [(b, d, prodC c r.2.2 r'.2.2)] ++ rs.drop (i + 2)).map (·.1) := by
            rw [List.map_append, List.map_append, List.map_take, List.map_drop]
            rfl
          rw [eas] at cr8
          have eR9 : H8 p5 = some (.lst ((rs.take i ++ [(b, d, prodC c r.2.2 r'.2.2)] ++ rs.drop (i + 2)).map fun r => V.ref r.2.1)) := by
            rw [ep8, List.map_append, List.map_append, List.map_take, List.map_drop]
            rfl
          refine ⟨_, rfl, _, _, rfl, rfl, ?_⟩
          refine next H8 p5 _ (n + 1) _ _ _ ⟨cr8, bs9, eR9, nR5, ?_, Nat.le_trans (many_two e e' _ szp) hmany⟩ (Nat.le_refl _)
          rw [List.length_append, List.length_append, List.length_take, List.length_drop]
          show _ + 1 + _ ≤ 6
          omega
        | false =>
          refine iteF ?_
          clear hk sx
          refine ⟨_, _, _, _, _, _, _, _, _, _, _, _, R, c, rs, w, rfl, sx1.rw, hmany, fun k hk => ?_⟩
          cases k with
          | false => exact iteF (next H1 R rs n _ _ _ sx1 (by omega))
          | true =>
            refine iteT ?_
            have hm40 := hk rfl
            have e : rs[i]? = some rs[i] := List.getElem?_eq_getElem il
            generalize rs[i] = r at e
            have m1 := List.mem_of_getElem? e
            have gi : (rs.map fun r => V.ref r.2.1)[i]? = some (V.ref r.2.1) := by rw [List.getElem?_map, e]; rfl
            have lm : (rs.map fun r => V.ref r.2.1).length = rs.length := List.length_map _
            have v1 := sx1.bs.vt r m1
            have z1 := sz_le_many e
            have rl := v1.ln
            refine ⟨_, rfl, _, rfl, R, _, _, _, rfl, rfl, SqL.of sx1.eR, atI_nat gi, r.2.1, kv r.2.2, rfl, .inl (sx1.bs.dic r m1), fun p1 np1 => ?_⟩
            have ekk : ((kv r.2.2).map fun kv => kV kv.1) = (r.2.2.map (·.1)).map V.str := by
              unfold kv
              rw [List.map_map, List.map_map]
              rfl
            rw [ekk]
            have sx2 := sx1.same (same_upd (o := .lst ((r.2.2.map (·.1)).map V.str)) np1)
            have ep1 : (upd H1 p1 (.lst ((r.2.2.map (·.1)).map V.str))) p1 = some (.lst ((r.2.2.map (·.1)).map V.str)) := upd_same
            have nph : p1 ≠ h := by
              obtain ⟨cs, a, l, sd, tn, t1, t2, _⟩ := sx1.cr.tape
              exact (ne_of_none t1 np1).symm
            generalize upd H1 p1 (.lst ((r.2.2.map (·.1)).map V.str)) = H2 at sx2 ep1 ⊢
            refine ⟨_, rfl, _, rfl, h, ca, z, 4, rfl, sx2.cr.tape, hz, hz1, by omega, by decide, fun H3 x hh3 k3 hx hxl => ?_⟩
            have sx3 := sx2.tape' hh3 k3
            have ep1' := k3 _ _ ep1 nph
            refine ⟨rfl, rfl, by show 3 ≤ sizeLine; omega, fun p2 np2 => ?_⟩
            have ezs : [V.str x, V.str "", V.str (PySem.Txt.mul "z" 12)] = ([x, "", PySem.Txt.mul "z" 12] : List Str).map V.str := rfl
            rw [ezs]
            have s4 := same_upd (o := .lst (([x, "", PySem.Txt.mul "z" 12] : List Str).map V.str)) np2
            have ep2 : (upd H3 p2 (.lst (([x, "", PySem.Txt.mul "z" 12] : List Str).map V.str))) p2 = _ := upd_same
            have sx4 := sx3.same s4
            have ep1'' := s4 _ _ ep1'
            generalize upd H3 p2 (.lst (([x, "", PySem.Txt.mul "z" 12] : List Str).map V.str)) = H4 at s4 ep2 sx4 ep1'' ⊢
            refine ⟨p1, p2, _, _, rfl, rfl, ep1'', ep2, by rw [List.length_map, List.length_map, List.length_map]; show _ + 3 ≤ sizeLine; omega, fun p3 np3 => ?_⟩
            rw [← List.map_append]
            obtain ⟨ws, hws, hwl, hww⟩ : ∃ ws : List Str, ws = r.2.2.map (·.1) ++ [x, "", PySem.Txt.mul "z" 12] ∧ ws.length = r.2.2.length + 3 ∧ ∀ y ∈ ws, xyz y ∧ y.length ≤ 12 := by
              refine ⟨_, rfl, by rw [List.length_append, List.length_map]; rfl, fun y hy => ?_⟩
              rcases List.mem_append.mp hy with hy | hy
              · obtain ⟨p, hp, rfl⟩ := List.mem_map.mp hy
                exact v1.wd p hp
              · rcases List.mem_cons.mp hy with rfl | hy
                · exact ⟨hx, by omega⟩
                · rcases List.mem_cons.mp hy with rfl | hy
                  · exact ⟨by decide +kernel, by decide +kernel⟩
                  · rw [List.mem_singleton.mp hy]
                    exact ⟨by decide +kernel, by decide +kernel⟩
            rw [← hws]
            have s5 := same_upd (o := .lst (ws.map V.str)) np3
            have ep3 : (upd H4 p3 (.lst (ws.map V.str))) p3 = some (.lst (ws.map V.str)) := upd_same
            have sx5 := sx4.same s5
            have np3h : p3 ≠ h := by
              obtain ⟨cs, a, l, sd, tn, t1, t2, _⟩ := sx4.cr.tape
              exact (ne_of_none t1 np3).symm
            generalize upd H4 p3 (.lst (ws.map V.str)) = H5 at s5 ep3 sx5 ⊢
            clear hws np3 np2 np1 s4 s5 ep2 ep1 ep1' ep1'' sx4 sx3 sx2 nph hh3 k3 hx hxl
            refine ⟨_, rfl, _, rfl, _, rfl, R, _, _, _, rfl, rfl, SqL.of sx5.eR, atI_nat gi, r.2.1, kv r.2.2, rfl, sx5.bs.dic r m1, _, _, rfl, rfl, ?_⟩
            rw [kv_len]
            refine ⟨h, ca, (r.2.2.length : Int) + 3, rfl, by omega, by omega, sx5.cr.tape, fun j H6 j0 j1 hh6 k6 => ?_⟩
            obtain ⟨jn, rfl⟩ : ∃ jn : Nat, j = jn := ⟨j.toNat, by omega⟩
            have sx6 := sx5.tape' hh6 k6
            have ep6 := k6 _ _ ep3 np3h
            have jl : jn < ws.length := by omega
            have gj : (ws.map V.str)[jn]? = some (V.str ws[jn]) := by rw [List.getElem?_map, List.getElem?_eq_getElem jl]; rfl
            have hyw := hww _ (List.getElem_mem jl)
            generalize ws[jn] = y at gj hyw
            obtain ⟨hy, hyl⟩ := hyw
            refine ⟨p3, _, _, _, rfl, rfl, SqL.of ep6, atI_nat gj, ?_⟩
            clear ep6 ep3 hww hwl gj jl j0 j1 k6 hh6 np3h sx5
            refine ⟨_, rfl, _, rfl, h, ca, c, rfl, hc0, by omega, sx6.cr.tape, fun m H7 mm0 mm1 hh7 k7 => ?_⟩
            have sx7 := sx6.tape' hh7 k7
            refine ⟨_, rfl, _, rfl, _, rfl, R, _, _, _, rfl, rfl, SqL.of sx7.eR, atI_nat gi, fun D8 hD8 => ⟨_, rfl, _, rfl, upd_same, kv [(y, m)], rfl, Nat.le_of_ble_eq_true rfl, ?_⟩⟩
            have nd1 : Nd [(y, m)] := List.nodup_cons.mpr ⟨by simp, List.nodup_nil⟩
            rw [upd_upd, merge_kv nd1]
            have sx8 := sx7.same (same_upd (o := .dK (kv [(y, m)])) hD8)
            have e8 : (upd H7 D8 (.dK (kv [(y, m)]))) D8 = some (.dK (kv [(y, m)])) := upd_same
            generalize upd H7 D8 (.dK (kv [(y, m)])) = H8 at sx8 e8 ⊢
            refine ⟨r.2.1, D8, c, r.2.2, [(y, m)], rfl, hc0, hc7, sx8.bs.dic r m1, e8, nd1, fun p hp => by
              rw [List.mem_singleton] at hp
              subst hp
              exact ⟨mm0, mm1⟩, by omega, Nat.le_of_ble_eq_true rfl, fun H9 d s9 nd9 e9 => ?_⟩
            have ndd : ∀ z ∈ rs, d ≠ z.2.1 := fun z hz e => by
              have := sx8.bs.dic z hz
              rw [← e, nd9] at this
              cases this
            have sx9 := sx8.same s9
            clear sx8 sx7 sx6 e8 hD8 k7 hh7
            refine ⟨_, rfl, _, rfl, R, _, (i : Int), i, rfl, rfl, sx9.eR, by unfold ixN; rw [if_pos (by omega), lm, if_pos (by omega), Int.toNat_natCast], ?_⟩
            have eset : (rs.map fun r => V.ref r.2.1).set i (.ref d) = (rs.map fun r => V.ref r.2.1).take i ++ [V.ref d] ++ (rs.map fun r => V.ref r.2.1).drop (i + 1) := by
              rw [List.set_eq_take_append_cons_drop, if_pos (by rw [lm]; exact il), List.append_assoc]
              rfl
            rw [eset]
            have kR : But R H9 (upd H9 R (.lst ((rs.map fun r => V.ref r.2.1).take i ++ [V.ref d] ++ (rs.map fun r => V.ref r.2.1).drop (i + 1)))) := but_upd
            have crA := sx9.cr.row ⟨_, sx9.eR⟩ kR sx9.nR
            have bsA := sx9.bs.but ⟨_, sx9.eR⟩ kR
            have eA := kR _ _ e9 (ne_of e9 sx9.eR (by intro y; cases y))
            have eRA : (upd H9 R (.lst ((rs.map fun r => V.ref r.2.1).take i ++ [V.ref d] ++ (rs.map fun r => V.ref r.2.1).drop (i + 1)))) R = _ := upd_same
            generalize upd H9 R (.lst ((rs.map fun r => V.ref r.2.1).take i ++ [V.ref d] ++ (rs.map fun r => V.ref r.2.1).drop (i + 1))) = HA at kR crA bsA eA eRA ⊢
            obtain ⟨row, ps, bn3, hps⟩ := id crA.bn
            obtain ⟨dx, h1⟩ := bn3.at_
            refine ⟨_, rfl, q', dx, _, rfl, h1, bf_none _ _ _ _, _, rfl, _, rfl, _, rfl, q', row, past, r.1, c, m, sz r.2.2, y, r.2.2, _, ps, i, rfl, bn3, by rw [List.getElem?_map, e]; rfl, ⟨bsA.bag r m1, v1⟩, hck, by omega, hy, hyl, mm0, mm1, by rw [List.length_map]; omega, by omega, fun HB row' b t kB bnB hbB lkB => ?_⟩
            have crB := crA.deed kB bnB (m := n + 1) (by rw [List.length_append, hps]; rfl)
            have bsB := (bsA.deed crA kB).sub (cut_sub rs (show i ≤ i + 1 by omega))
            have eB := kB _ _ eA (ne_of eA h1 (by intro y; cases y)) (ne_of eA bn3.past (by intro y; cases y))
            have eRB := kB _ _ eRA (ne_of eRA h1 (by intro y; cases y)) sx9.nR.1
            obtain ⟨w1, w2⟩ := sumC_one (x := y) (n := m) hc0 v1 hy hyl
            have hcn : canon t = canon (sumC c r.2.2 [(y, m)]) := lk_same hc0 hbB.2 w1 (lkB.trans w2.symm)
            have hbC := hbB.1
            rw [hcn] at hbC
            have sl := sumC_len (c := c) [(y, m)] r.2.2
            rw [List.length_singleton] at sl
            have vz : VT c 12 (sz (sumC c r.2.2 [(y, m)])) (sumC c r.2.2 [(y, m)]) := w1.of (fun p hp => (w1.wd p hp).2) (by unfold sz; omega)
            have szp : sz (sumC c r.2.2 [(y, m)]) ≤ 2 * sz r.2.2 := by
              have := sz_pos r.2.2
              show max 1 _ ≤ _
              omega
            have bsC := Bs.ins (xs := rs.take i) (ys := rs.drop (i + 1)) bsB (r := (b, d, sumC c r.2.2 [(y, m)])) hbC eB vz (fun z hz => ndd z ((cut_sub rs (show i ≤ i + 1 by omega)).subset hz))
            have eas : (rs.map (·.1)).take i ++ [b] ++ (rs.map (·.1)).drop (i + 1) = (rs.take i ++ [(b, d, sumC c r.2.2 [(y, m)])] ++ rs.drop (i + 1)).map (·.1) := by
              rw [List.map_append, List.map_append, List.map_take, List.map_drop]
              rfl
            rw [eas] at crB
            have eRC : HB R = some (.lst ((rs.take i ++ [(b, d, sumC c r.2.2 [(y, m)])] ++ rs.drop (i + 1)).map fun r => V.ref r.2.1)) := by
              rw [eRB, List.map_append, List.map_append, List.map_take, List.map_drop]
              rfl
            have hmc : manyR (rs.take i ++ [(b, d, sumC c r.2.2 [(y, m)])] ++ rs.drop (i + 1)) ≤ 78 := by
              have h1 := many_cut e (b, d, sumC c r.2.2 [(y, m)])
              have h2 : manyR rs * sz (sumC c r.2.2 [(y, m)]) ≤ 39 * (2 * sz r.2.2) := Nat.mul_le_mul (by omega) szp
              have h3 : manyR (rs.take i ++ [(b, d, sumC c r.2.2 [(y, m)])] ++ rs.drop (i + 1)) * sz r.2.2 ≤ 78 * sz r.2.2 := by
                rw [h1]
                show manyR rs * sz (sumC c r.2.2 [(y, m)]) ≤ _
                omega
              exact Nat.le_of_mul_le_mul_right h3 (sz_pos _)
            refine ⟨_, rfl, _, _, rfl, rfl, ?_⟩
            refine next HB R _ (n + 1) _ _ _ ⟨crB, bsC, eRC, sx9.nR, ?_, hmc⟩ (Nat.le_refl _)
            rw [List.length_append, List.length_append, List.length_take, List.length_drop]
            show _ + 1 + _ ≤ 6
            omega
    refine ⟨_, rfl, a, ns, rfl, hS, fun H1 h ca s1 hh => ?_⟩
    have tb1 := tb.ext s1
    refine ⟨_, rfl, h, ca, rfl, hh, fun H2 c hh2 k2 hck => ?_⟩
    have tb2 := tabs_but tb1 hh.lst k2
    refine ⟨_, rfl, h, ca, rfl, hh2, fun H3 z hh3 k3 hz hz1 hz3 => ?_⟩
    have tb3 := tabs_but tb2 hh2.lst k3
    clear tb tb1 tb2 s1 hS k2 k3 hh hh2
    refine ⟨_, rfl, fun q' dx hx hdx ne => ?_⟩
    refine ⟨q', dx, c, rfl, upd_same, hck, fun H4 row past k4 np bn => ⟨rfl, ?_⟩⟩
    have s4 := made_same k4 hx hdx
    obtain ⟨cs, a1, l1, sd, tn, t1, t2, t3⟩ := id hh3
    have nhp : h ≠ past := ne_of_none (made_dict t1 hx hdx) np
    have ncp : ca ≠ past := ne_of_none (made_dict t2 hx hdx) np
    have cr4 : Cr K H4 h ca q' past c ([] : List Addr) 0 := ⟨hh3.same s4, tb3.ext s4, ⟨row, [], bn, rfl⟩, nhp, ncp⟩
    refine ⟨Nat.zero_le _, fun R nR => ⟨_, _, rfl, ?_⟩⟩
    have s5 := same_upd (o := .lst []) nR
    have sx5 : Sx K (upd H4 R (.lst [])) h ca q' past R c [] 0 := ⟨cr4.same s5, ⟨fun _ h => (by cases h), fun _ h => (by cases h), fun _ h => (by cases h), List.nodup_nil⟩, upd_same, ⟨(ne_of_none bn.past nR).symm, (ne_of_none (s4 _ _ t1) nR).symm, (ne_of_none (s4 _ _ t2) nR).symm⟩, Nat.zero_le _, by rw [manyR_nil]; decide⟩
    generalize upd H4 R (.lst []) = H5 at sx5 ⊢
    clear s5 nR cr4 nhp ncp t1 t2 t3 s4 np bn k4 ne hdx hx tb3 hh3
    refine ⟨20, rfl, by decide, by decide, ?_⟩
    refine for_it walk_range (fun i σ H' => ∃ (R : Addr) (n : Nat) (rs : Rs) (v7 v8 v9 v10 v11 v12 v13 : Option V), σ = [some (.ref a), some (.ref h), some (.int c), some (.str z), some (.ref q'), some (.ref R), some (.int (n : Nat)), v7, v8, v9, v10, v11, v12, v13] ∧ Sx K H' h ca q' past R c rs n ∧ n ≤ i)
      ⟨R, 0, [], _, _, _, _, _, _, _, rfl, sx5, Nat.le_refl _⟩ (fun _ _ _ _ _ => trivial) ?_ ?_
    · rintro i x σ Ha Hb hi ⟨R, n, rs, v7, v8, v9, v10, v11, v12, v13, rfl, sx, hn⟩ ⟨rfl, rfl⟩
      refine ⟨_, rfl, h, ca, 7, rfl, by decide, by decide, sx.cr.tape, fun w H6 w0 w1 hh6 k6 => ?_⟩
      have sx6 := sx.tape' hh6 k6
      have hl6 := sx6.len
      have lm : (rs.map fun r => V.ref r.2.1).length = rs.length := List.length_map _
      refine ⟨_, rfl, _, rfl, R, _, rfl, .inl (SqL.of sx6.eR), 1, _, rfl, h, ca, _, rfl, ?_, ?_, sx6.cr.tape, fun j H7 j0 j1 hh7 k7 => ?_⟩
      · split <;> omega
      · split <;> omega
      obtain ⟨jn, rfl⟩ : ∃ jn : Nat, j = jn := ⟨j.toNat, by omega⟩
      have sx7 := sx6.tape' hh7 k7
      refine ⟨_, _, _, _, _, h, ca, q', past, R, c, z, rs, n, jn, w, rfl, sx7, hck, hz, hz1, hz3, by omega, fun hne => ?_, fun H8 R8 rs8 n8 y11 y12 y13 sx8 hn8 => ?_⟩
      · have := List.length_pos_iff.mpr hne
        split at j1 <;> omega
      refine ⟨_, rfl, rfl, _, rfl, iteF ?_⟩
      obtain ⟨row, ps, bn8, hps⟩ := id sx8.cr.bn
      refine ⟨_, rfl, _, rfl, _, rfl, _, rfl, q', row, past, R8, c, rs8, ps, n8, rfl, sx8.cr.tb, bn8, by rw [hps], sx8.rw, hck, sx8.len, sx8.many, fun H9 x9 tb9 => ⟨true, rfl, iteF ?_⟩⟩
      exact ⟨R8, n8, rs8, _, _, _, _, _, _, _, rfl, sx8.ext x9 tb9, by omega⟩
    · rintro σ H6 ⟨R6, n6, rs6, v7, v8, v9, v10, v11, v12, v13, rfl, sx6, hn6⟩
      exact q H6
end
end Fp

set_option Elab.async false
set_option linter.all false
set_option maxRecDepth 100000
set_option maxHeartbeats 0
namespace Fp
open PySem PySem.Spec PyProof.Rows L2
abbrev R : PySem.W.OpenRow := PySem.W.OpenLaw.row PySem.Challenge.rw_frontparts_k77_whole_benches_by_own_rows
abbrev hk : PySem.W.Hook := He.hookX 5 fa fn [] [("_law_pairs", none)] ex
def ob (s : PySem.W.SharedT) : He.AlX := He.obsX 5 fa fn [] [("_law_pairs", none)] ex (HandSHeadRun.getT s)
theorem ob_eq (s : PySem.W.SharedT) : ob s = hk.obs s.abs := He.obsX_eq (HandSHeadRun.getT_eq s)
def loose : List PySem.Str := "_wall" :: "__name__" :: "BagError" :: "BadBag" :: "UnlikeClocks" :: "NoNumber" :: "NoWord" :: "NoRow" :: "NoPlace" :: "NoClock" :: "NoBag" :: "Full" :: "NothingDone" :: "CLOCKS" :: "LETTERS" :: "is_integer" :: "is_from_to" :: "is_clock" :: "check_clock" :: "is_word" :: "rank_of" :: "tidied" :: "added" :: "multiplied" :: "MOST_WORDS" :: "MOST_LETTERS" :: "Bag" :: "are_words" :: "is_short_word" :: "pairs_of" :: "bag_of" :: "table_of" :: "is_bag" :: "are_bags" :: "check_clocks" :: "check_bags" :: "behind" :: "all_behind" :: "MOST_BAGS" :: "Bench" :: "_law_tape" :: "_law_pick" :: "_law_word" :: "_law_sparse" :: "_law_clock" :: "_law_letters" :: "_law_pairs" :: "_law_sum" :: "_law_product" :: "_law_size" :: "_law_is" :: "_law_is_told" :: "_law_room" :: "_law_many" :: []
theorem run (w : World) : HandSHeadRun.RunEq R (PySem.W.view R.prog [59]) hk ob 20000 loose w := by
  intro os
  kernel_rfl
theorem top_of {w : World} {h h' : Heap} {K : PySem.W.Frag} {mg : Str → Option Value} (X : K.In h) (G : h.Ns mainGlobals mg) (c : He.SaysX fa fn [] [("_law_pairs", none)] ex w h' K) : Top K mg := ⟨⟨h, X, G⟩, c.t.d, c.more⟩
end Fp

set_option Elab.async false
set_option linter.all false
set_option maxRecDepth 100000
set_option maxHeartbeats 8000000
open PySem PySem.W PySem.Calls PyProof.Rows
theorem PySem.Challenge.cw_frontparts_k77_whole_benches_by_own_rows_holds : PySem.Challenge.rw_frontparts_k77_whole_benches_by_own_rows.Holds := by
  w_on; o_law
  refine HandSHeadRun.head_any (r := OpenLaw.row PySem.Challenge.rw_frontparts_k77_whole_benches_by_own_rows) (q := view (OpenLaw.row PySem.Challenge.rw_frontparts_k77_whole_benches_by_own_rows).prog [59]) (H := Fp.hk) (ob := Fp.ob) (M := 20000) (loose := Fp.loose) (d := HandSHeadRun.topDef (OpenLaw.row PySem.Challenge.rw_frontparts_k77_whole_benches_by_own_rows).prog 59) (kwd := []) Fp.ob_eq
    (by kernel_rfl) (fun s => by kernel_rfl) Fp.run (by kernel_rfl) (by kernel_rfl) (by kernel_rfl) (by rfl) (by first | assumption | decide +kernel) (by decide +kernel) ⟨rfl, rfl, rfl, rfl, rfl, by decide +kernel⟩ ?hw ?hc
  case hw => w_witness2
  case hc =>
    refine LamX.walk_ofTG (l := PySem.Challenge.rw_frontparts_k77_whole_benches_by_own_rows) (n := 63) (k := 11) (x := "_law_script") rfl (by decide) (by kernel_rfl) ⟨rfl, by decide, by decide⟩ ?F
    intro w mg fa h Y G hmg0
    obtain ⟨K, KX, c⟩ := Y
    have hmg : mg ("law" : PySem.Str) = some (.ref fa) := by
      have e : (HandSHeadRun.topDef (OpenLaw.row PySem.Challenge.rw_frontparts_k77_whole_benches_by_own_rows).prog 59).name = ("law" : PySem.Str) := by kernel_rfl
      rw [← e]
      exact hmg0
    have T := Fp.top_of KX G c
    obtain ⟨fd, F⟩ := Fp.fn_law T
    have e := hmg.symm.trans (Fp.g_law T)
    cases e
    have b := L2.FunD.bindsA (ps := ["_law_script"]) F fun _ _ _ _ _ _ us hl => match us, hl with | [_], _ => rfl
    exact ⟨K, KX, fd, [He.cT K Fp.dPr], Fp.spLaw K, fun p hp => by
      rw [List.mem_singleton.mp hp]
      exact ⟨c.empty _ (List.mem_singleton.mpr rfl), c.out _ (List.mem_singleton.mpr rfl), PySem.W.codeHd_of_K KX (c.hd _ (List.mem_singleton.mpr rfl))⟩, fun s v => b s [v] rfl, fun H a ns hl hP hS => ⟨a, ns, rfl, (fun p hp => by
      rw [List.mem_singleton.mp hp]
      exact LamX.TabS.nil (hP _ (List.mem_singleton.mpr rfl))), hS, fun _ => rfl⟩, fun base _ _ TB => Fp.ok_law T (TB _ (List.mem_singleton.mpr rfl)) F⟩
