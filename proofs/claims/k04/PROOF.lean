import PyProof.Rows.All
import Wide.All
import OpenK.AllK
import Wide.FinOn
import HandS.ForMost
import HandS.More
import HandS.OwnEq
import HandS.IsInst
import HandS.WordsExc
import HandS.Defaults
import HandS.SortKw
import KE.SortData
import KE.SortKeyHeap
import HandS.StrMore
import HandS.Walk
import HandS.Style
import KE.KDictPairs
import HandS.HeadHook1
import HandS.HeadHook2
import HandS.HeadHook3
import HandS.HeadHook4
import Wide.Once
import KE.KStateDown
import Lean
import HandS.Head0
import HandS.Head1
import HandS.Head2
import HandS.HeadEnd
import KE.DataEq
import HandS.DictComp
import HandS.ForExc
import KE.KRevSl
import HandS.Iter
import PySem.Challenge.RW_frontparts_k04_whole_mirrored_and_replac
set_option Elab.async false
set_option linter.all false
set_option maxRecDepth 100000
set_option maxHeartbeats 2000000
/-! == and != of an instance by an own __eq__, whatever stands at the right -/
namespace Fp
open PySem PySem.Spec PyProof.Rows PySem.SeqAt
section
variable {M : Model} {prog : Program} {w : World} {A : Around} {E : Value → Shared → Prop} {s : Shared} {K : PySem.W.Frag} {x C f : Addr} {ox : Obj} {od : Option Obj} {b tb : Value}
theorem ifBound_objNe {args : List Value} {Q : Option Value → Shared → Prop} (X : K.In s.heap) (I : PySem.W.InstAt s.heap x ox C od) (hs : PySem.W.findIn K (.ref C) "__ne__" = some (some (.builtin "object.__ne__")))
    (h : wpAny M A (call (.builtin "object.__ne__") (.ref x :: args)) (fun v => Q (some v)) E s) : wpAny M A (callSpecialIfBound? (.ref x) "__ne__" args) Q E s := by
  simp only [callSpecialIfBound?, bindSpecialIfBound?]
  refine wpAny_holding (wpAny_bind (wpAny_bind (wpAny_bind (I.type.here ((PySem.W.looks_findIn X hs).here ?_)))))
  refine wpAny_bind (wpAny_askSetting (wpAny_ite ?_))
  have fin : wpAny M A (call (.builtin "object.__ne__") ([.ref x] ++ args) >>= fun v => pure (some v)) Q E s := wpAny_bind (wpAny_mono h (fun v s' h' => wpAny_pure h') fun _ _ h' => h')
  split
  · exact wpAny_bind (wpAny_of_eq (F.cmp_object.ne.bind _) (wpAny_pure (by exact fin)))
  · exact wpAny_tryCatch (wpAny_bind (wpAny_of_eq (F.cmp_object.ne.bind _) (wpAny_pure (by exact fin))))
theorem entry_ne {Q : Fin → Shared → Prop} (hu : A.units < cLine) (X : K.In s.heap) (I : PySem.W.InstAt s.heap x ox C od) (hs : PySem.W.findIn K (.ref C) "__eq__" = some (some (.ref f))) (hf : PySem.W.isFn K (.ref f) = true)
    (hcall : wpAny (model prog w) A (call (.ref f) [.ref x, b]) (fun v s' => ∃ r, v = .bool r ∧ Q (.done (.ret (.bool (!r)))) s') E s) :
    wpAny (model prog w) A (Builtin.«object.__ne__» ⟨[.ref x, b], []⟩) Q E s := by
  unfold Builtin.«object.__ne__»
  repeat (first
    | with_reducible refine wpAny_cRoomFor hu ?_
    | (refine wpAny_bind (m := callSpecialIfBound? (.ref x) (Str.ofString "__eq__") [b])
        (PySem.W.ifBound_K X I hs hf (wpAny_mono hcall (fun r s' hr => by
          obtain ⟨b, rfl, hq⟩ := hr
          repeat (first | exact hq | exact wpAny_pure hq | exact wpAny_truthy_bool hq | (refine wpAny_bind (m := truthy (.bool _)) (wpAny_truthy_bool ?_)) | wp_step)) fun _ _ e => e)))
    | wp_step)
theorem cmpNe_K {Q : Value → Shared → Prop} (hu : A.units + 1 < cLine) (X : K.In s.heap) (I : PySem.W.InstAt s.heap x ox C od) (hb : PySem.W.Looks (model prog w) s.heap (typeOf b) tb) (hn : PySem.W.notFirst K C tb = true)
    (hne : PySem.W.findIn K (.ref C) "__ne__" = some (some (.builtin "object.__ne__"))) (hs : PySem.W.findIn K (.ref C) "__eq__" = some (some (.ref f))) (hf : PySem.W.isFn K (.ref f) = true) (hm : PySem.W.mroIn K C (.type "object") = some true)
    (h : wpAny (model prog w) A.in1 (call (.ref f) [.ref x, b]) (fun v s' => ∃ r, v = .bool r ∧ Q (.bool (!r)) s') E s) : wpAny (model prog w) A (richCompare .NotEq (.ref x) b) Q E s := by
  have one : wpAny (model prog w) A (tryCompare (.ref x) "__ne__" b) (fun r s' => ∃ v, r = some v ∧ Q v s') E s := by
    unfold tryCompare
    refine wpAny_bind (ifBound_objNe X I hne ?_)
    refine wpAny_call (codeAny_call_builtin F.cmp_object.ne.plain F.cmpEntry_ne (PySem.W.check_slot F.cmpKind_ne F.cmpSplit_ne (I.type.andThen (PySem.W.looks_mroIn X hm)) (F.cmpArgs_ne _ _)
      (entry_ne (A := A.in1) (show A.in1.units < cLine from hu) X I hs hf (wpAny_mono h (fun v s' hv => ?_) fun _ _ e => e))))
    obtain ⟨r, rfl, hq⟩ := hv
    exact ⟨r, rfl, wpAny_pure ⟨_, rfl, hq⟩⟩
  unfold richCompare
  simp only [oneThing_ref]
  refine wpAny_holding (wpAny_bind (wpAny_cRoomFor (Nat.lt_of_succ_lt hu) ?_))
  rw [show cmpInfo .NotEq = (("!=", "__ne__", "__ne__") : String × Str × Str) from rfl]
  dsimp only
  refine wpAny_bind (I.type.here (wpAny_bind (hb.here ?_)))
  split
  · rename_i q
    have e : PySem.W.subIn K tb (.ref C) = some false := by
      rcases Bool.or_eq_true_iff.mp hn with e | e
      · rw [beq_iff_eq.mp e] at q; simp at q
      · exact beq_iff_eq.mp e
    refine wpAny_bind ((PySem.W.looks_subIn X e).here ?_)
    simp only [Bool.false_eq_true, if_false]
    refine wpAny_bind (wpAny_mono one (fun r s' z => ?_) fun _ _ e => e)
    obtain ⟨v, rfl, hq⟩ := z
    exact wpAny_pure hq
  · refine wpAny_bind (wpAny_pure ?_)
    simp only [Bool.false_eq_true, if_false]
    refine wpAny_bind (wpAny_mono one (fun r s' z => ?_) fun _ _ e => e)
    obtain ⟨v, rfl, hq⟩ := z
    exact wpAny_pure hq
end
end Fp
namespace L2
open PySem PySem.Spec PyProof.Rows
def rOwnEq (K : PySem.W.Frag) (C : Addr) (sp : Sp) : R2 := fun x y H Q => ∃ a dx fs t, x = .ref a ∧ H a = some (.ins C dx fs) ∧ TyX K H y t ∧ PySem.W.notFirst K C t = true ∧ sp [x, y] H (fun v H' => ∃ r, v = .bl r ∧ Q (.bl r) H') (fun _ _ _ => False)
def rOwnNe (K : PySem.W.Frag) (C : Addr) (sp : Sp) : R2 := fun x y H Q => ∃ a dx fs t, x = .ref a ∧ H a = some (.ins C dx fs) ∧ TyX K H y t ∧ PySem.W.notFirst K C t = true ∧ sp [x, y] H (fun v H' => ∃ r, v = .bl r ∧ Q (.bl (!r)) H') (fun _ _ _ => False)
section
variable {X : Cx} {C f : Addr} {fd : FuncData} {ps : List Str} {sp : Sp} {n : Nat}
theorem op_ownEq (F : FnOk X.prog X.w X.K X.mg X.base CX0 n f fd ps sp) (hs : PySem.W.findIn X.K (.ref C) "__eq__" = some (some (.ref f))) (hf : PySem.W.isFn X.K (.ref f) = true) (hb : Binds X.K fd ps []) (hr : Room n X.A) :
    OpR X (compareOp .Eq) (rOwnEq X.K C sp) := by
  intro pins s σ H x y v u Q I rx ry hq
  obtain ⟨a, dx, fs, t, rfl, ha, ty, hn, hsp⟩ := hq
  cases rx
  obtain ⟨mA, J, _⟩ := ins_get I.hok ha
  obtain ⟨od, J, _⟩ := J.look
  obtain ⟨P, Z, p, _⟩ := kit_of I ry ty
  obtain ⟨m, hF⟩ := I.fr
  show wpAny (model X.prog X.w) X.A (richCompare .Eq _ u) (EP X pins σ Q) X.xe s
  refine PySem.W.cmp_K (op := .Eq) (tb := t) hr.units0 hF I.ok.mod.kin J (Z.ty _ _ I.kIn p) hn hs hf ?_
  have hl := F.len _ _ _ _ hsp
  have r2 : Vals [V.ref a, y] [Value.ref a, u] := .cons rfl (.cons ry .nil)
  refine wpAny_call (codeAny_mono (F.run X.A X.stack s H ⟨[.ref a, u], []⟩ [.ref a, u] [.ref a, y] _ (fun _ _ _ => False) hr I.env0 (by
    have := hb s [.ref a, u] I.kIn (by simpa using hl)
    simpa using this) r2 hsp) fun r s' hq => ?_)
  cases r with
  | error e => exact pass0 pins σ H s e s' I hq
  | ok fl =>
    cases fl with
    | ret w =>
      obtain ⟨z, H', I', rz, r, ez, q⟩ := I.after hq
      subst ez
      cases rz
      exact ⟨.bl r, H', I', rfl, q⟩
    | next => exact False.elim hq
    | brk => exact False.elim hq
    | cont => exact False.elim hq
theorem op_ownNe (F : FnOk X.prog X.w X.K X.mg X.base CX0 n f fd ps sp) (hne : PySem.W.findIn X.K (.ref C) "__ne__" = some (some (.builtin "object.__ne__"))) (hs : PySem.W.findIn X.K (.ref C) "__eq__" = some (some (.ref f))) (hf : PySem.W.isFn X.K (.ref f) = true)
    (hm : PySem.W.mroIn X.K C (.type "object") = some true) (hb : Binds X.K fd ps []) (hr : Room (n + 1) X.A) :
    OpR X (compareOp .NotEq) (rOwnNe X.K C sp) := by
  intro pins s σ H x y v u Q I rx ry hq
  obtain ⟨a, dx, fs, t, rfl, ha, ty, hn, hsp⟩ := hq
  cases rx
  obtain ⟨mA, J, _⟩ := ins_get I.hok ha
  obtain ⟨od, J, _⟩ := J.look
  obtain ⟨P, Z, p, _⟩ := kit_of I ry ty
  show wpAny (model X.prog X.w) X.A (richCompare .NotEq _ u) (EP X pins σ Q) X.xe s
  have hu : X.A.units + 1 < cLine := hr.in1.units0
  refine Fp.cmpNe_K (tb := t) hu I.kIn J (Z.ty _ _ I.kIn p) hn hne hs hf hm ?_
  have hl := F.len _ _ _ _ hsp
  have r2 : Vals [V.ref a, y] [Value.ref a, u] := .cons rfl (.cons ry .nil)
  refine wpAny_call (codeAny_mono (F.run X.A.in1 X.stack s H ⟨[.ref a, u], []⟩ [.ref a, u] [.ref a, y] _ (fun _ _ _ => False) hr.in1 I.env0.in1 (by
    have := hb s [.ref a, u] I.kIn (by simpa using hl)
    simpa using this) r2 hsp) fun r s' hq => ?_)
  cases r with
  | error e => exact pass0 pins σ H s e s' I hq
  | ok fl =>
    cases fl with
    | ret w =>
      obtain ⟨z, H', I', rz, r, ez, q⟩ := I.after hq
      subst ez
      cases rz
      exact ⟨r, rfl, .bl (!r), H', I', rfl, q⟩
    | next => exact False.elim hq
    | brk => exact False.elim hq
    | cont => exact False.elim hq
end
end L2

set_option Elab.async false
set_option linter.all false
set_option maxRecDepth 100000
set_option maxHeartbeats 2000000
/-! sorted(d, key=rank_of) of a dict of texts; sorted of tuples of an int and a text -/
namespace Fp
open PySem PySem.W PySem.Spec PyProof.Rows
/-- a word's rank -/
def rk (w : Str) : PyData := .tuple [.int (-(w.length : Int)), .str w]
def leR : Str → Str → Bool := dataLe false rk
def rkA (p : Pos) : Arguments := { posonlyargs := [], args := [{ arg := "word", annotation := none, pos := p }], vararg := none, kwonlyargs := [], kw_defaults := [], kwarg := none, defaults := [] }
def rkB (p1 p2 p3 p4 p5 p6 p7 : Pos) : List Stmt := [.Return (some (.Tuple [.UnaryOp .USub (.Call (.Name "len" p1) [.Name "word" p2] [] p3) p4, .Name "word" p5] 0 p6)) p7]
def rkS : Scope := { kind := .function, names := [(PySem.Str.ofString "word", .local), (PySem.Str.ofString "len", .globalImplicit)], isGenerator := false, isCoroutine := false, more := [] }
theorem ldC {M : Model} {s : Shared} {name : Str} {scope : Scope} {L a : Addr} {cd : Value} {m : Str → Option Value} {x : Str} {pos : Pos} {v : Value} {Q : Value → Shared → Prop} {A : Around} {E : Value → Shared → Prop} (hn : s.heap.Ns L m) (hv : m x = some v) (h : Q v s)
    (hk : scope.kind = .function := by rfl) (hl : (envOfC name scope L a cd).kindOf x = some .local := by rfl) (hd : (x == ("__debug__" : Str)) = false := by decide) :
    wpAny M A (eval (.Name x pos) (envOfC name scope L a cd)) Q E s := wpAny_Name (wpAny_loadName_local hk hl hn hv h) hd
section
variable {prog : Program} {w : World} {A : Around} {E : Value → Shared → Prop} {s : Shared} {K : Frag} {mg : Str → Option Value} {base : Heap} {fR : Addr} {fd : FuncData} {p0 p1 p2 p3 p4 p5 p6 p7 : Pos}
theorem rank_call (F : L2.FunD K "rank_of" "rank_of" (rkA p0) (rkB p1 p2 p3 p4 p5 p6 p7) rkS [] [] fR fd) (Mo : L2.Mod K mg base) (kb : ∀ b o, base.get? b = some o → s.heap.get? b = some o) (hlen : mg "len" = none) (hroom : A.depth + 1 < recursionLimit)
    {w0 : Str} {t : Tok} (hw : w0.length ≤ sizeLine) : wpAny (model prog w) A (call (.ref fR) [.str w0 t]) (KeyPure (rk w0) s) E s := by
  obtain ⟨oc, od, dV, kV, doc, pm, an, cdv, ct, osl, rfl, lk, hcd, hD, _⟩ := F.ex
  obtain rfl : dV = .none := by
    rcases hD with ⟨_, e⟩ | ⟨e, _⟩
    · exact e
    · exact absurd rfl e
  have X : K.In s.heap := Mo.kin.keeps kb
  refine wpAny_call (Att.call_fn (binds := [("word", .str w0 t)]) X (Mo.nolimit.keeps kb) lk hcd (Nat.lt_of_succ_lt hroom) (BindsTo.of_eq (by first | rfl | with_unfolding_all rfl)) (by first | rfl | decide | with_unfolding_all rfl) (fun s₁ IC => ?_) rfl rfl rfl)
  obtain ⟨h₁, tk₁, rfl⟩ := IC.toInCall.same
  have k : ∀ b o, s.heap.get? b = some o → h₁.get? b = some o := IC.toInCall.keep
  have hn := IC.toInCall.ns
  obtain ⟨mb, b1, b2⟩ := Mo.blt
  show wpAny _ _ (execs _ _) _ _ _
  refine wpAny_execs_cons (wpAny_Return_some (wpAny_Tuple_spliced ?_))
  show wpAny _ _ (spliced ((false, eval _ _) :: backTo p6 (starEach [_] _))) _ _ _
  refine Calls.spliced_cons (wpAny_UnaryOp ?_)
  refine wpAny_Call_Name_kw (Calls.Name_function_global rfl rfl (Calls.loadGlobal_builtin (Mo.glob.keeps fun b o e => k b o (kb b o e)) hlen (b1.keeps fun b o e => k b o (kb b o e)) ((b2 "len" (by decide)).trans boot_len) ?_) (by decide))
  refine callWith_builtin1 (spliced_more (ldC (v := .str w0 t) hn (by first | rfl | with_unfolding_all rfl | kernel_rfl) (spliced_none ?_))) rfl rfl
  have hs : sizeLine = 16777216 := sizeLine_eq
  have hl63 := L2.line63
  refine len_str (by omega) (neg_int ?_)
  show wpAny _ _ (spliced ((false, eval _ _) :: backTo p6 (starEach [] _))) _ _ _
  refine Calls.spliced_cons (ldC (v := .str w0 t) hn (by first | rfl | with_unfolding_all rfl | kernel_rfl) (Calls.spliced_nil ?_))
  refine ⟨by show 2 ≤ sizeLine; rw [sizeLine_eq]; decide, ?_⟩
  refine ⟨_, _, rfl, fun b o e => Heap.get?_push_of_some _ (k b o e), ?_⟩
  exact Reads.tuple (Heap.get?_push_size _ rfl) rfl rfl (by
    first
    | exact ReadsAll.cons (Reads.int _ _) (ReadsAll.cons (Reads.str _ _) ReadsAll.nil)
    | (have := ReadsAll.cons (h := Heap.push h₁ _) (Reads.int (-(w0.length : Int)) _) (ReadsAll.cons (Reads.str w0 t) ReadsAll.nil); simpa using this))
end
theorem alike_rk (a b : Str) : alike (rk a) (rk b) = true := by simp [rk, alike, alikeAll]
theorem rk_all (ws : List Str) : AllAlike (ws.map rk) := AllAlike.of alike_rk
theorem rk_sortable (ws : List Str) : Sortable (ws.map rk) := Sortable.tuples fun _ => ⟨_, _, rfl⟩
theorem rk_depth (w : Str) : (rk w).depth ≤ 2 := by simp [rk, PyData.depth, PyData.depthAll]
theorem vals_strs : ∀ {us : List Value} {ws : List Str}, EachIs (fun v w => ∃ t, v = Value.str w t) us ws → L2.Vals (ws.map L2.V.str) us
  | _, _, .nil => .nil
  | _, _, .cons h t => .cons h (vals_strs t)
theorem strs_each : ∀ {us : List Value} {ks : List Str}, us.length = ks.length → (∀ (j : Nat) (v : Value), us[j]? = some v → ∃ (x : Str) (t : Tok), ks[j]? = some x ∧ v = Value.str x t) → EachIs (fun v w => ∃ t, v = Value.str w t) us ks
  | [], [], _, _ => .nil
  | u :: us, k :: ks, hl, h => by
    obtain ⟨x, t, e1, e2⟩ := h 0 u rfl
    have e1' : k = x := Option.some.inj e1
    subst e1'
    refine .cons ⟨t, e2⟩ (strs_each (by simpa using hl) fun j v e => ?_)
    obtain ⟨x, t, a, b⟩ := h (j + 1) v (by simpa using e)
    exact ⟨x, t, by simpa using a, b⟩
  | [], _ :: _, hl, _ => by simp at hl
  | _ :: _, [], hl, _ => by simp at hl
/-- a pair of an int and a text, at an address -/
abbrev IS : Type := Addr × Int × Str
def enIS (p : IS) : PyData := .tuple [.int p.2.1, .str p.2.2]
def leIS : IS → IS → Bool := dataLe false enIS
theorem is_all (ws : List IS) : AllAlike (ws.map enIS) := AllAlike.of fun a b => by simp [enIS, alike, alikeAll]
theorem is_sortable (ws : List IS) : Sortable (ws.map enIS) := Sortable.tuples fun _ => ⟨_, _, rfl⟩
theorem is_depth (w : IS) : (enIS w).depth ≤ 2 := by simp [enIS, PyData.depth, PyData.depthAll]
theorem refs_each : ∀ {ps : List IS} {us : List Value}, L2.Vals (ps.map fun p => L2.V.ref p.1) us → EachIs (fun v p => v = Value.ref p.1) us ps
  | [], _, h => by cases h; exact .nil
  | p :: ps, _, h => by
    cases h with
    | cons r t => exact .cons r (refs_each t)
theorem each_refs : ∀ {us : List Value} {ps : List IS}, EachIs (fun v p => v = Value.ref p.1) us ps → L2.Vals (ps.map fun p => L2.V.ref p.1) us
  | _, _, .nil => .nil
  | _, _, .cons h t => .cons h (each_refs t)
end Fp
namespace L2
open PySem PySem.Spec PyProof.Rows
def rSortRk (fR : Addr) : List V → List V → Hp → VK → Prop := fun vs zs H Q => ∃ (a : Addr) (kvs : List (Key × V)) (ws : List Str), vs = [.ref a] ∧ zs = [.ref fR] ∧ Rd H a (.dK kvs) ∧ kvs.map (·.1) = ws.map Sum.inr ∧ (∀ w ∈ ws, w.length ≤ sizeLine) ∧
  ∀ p, H p = none → Q (.ref p) (upd H p (.lst ((ws.mergeSort Fp.leR).map V.str)))
section
variable {X : Cx} {fR : Addr} {fd : FuncData} {p0 p1 p2 p3 p4 p5 p6 p7 : Pos}
/-- sorted(d, key=rank_of) -/
theorem cr_sortRk (hcalm : X.calm = true) (F : FunD X.K "rank_of" "rank_of" (Fp.rkA p0) (Fp.rkB p1 p2 p3 p4 p5 p6 p7) Fp.rkS [] [] fR fd) (hlen : X.mg "len" = none) (hr : Room 1 X.A) : CallRK X (.builtin "sorted") [Str.ofString "key"] (rSortRk fR) := by
  intro pins s σ H vs zs us ws Q I r rz h
  obtain ⟨a, kvs, ks, rfl, rfl, hd, hks, hwl, q⟩ := h
  obtain rfl := Vals.ref1 r
  obtain ⟨w1, rfl, e1⟩ := vals1 rz
  obtain rfl : w1 = Value.ref fR := e1
  obtain ⟨z, lo, vs, rel, dd⟩ := dk_rd I.hok hd
  obtain ⟨ep, hat⟩ := dd.dictAt
  have hkeys : vs.map (·.1) = ks.map Sum.inr := rel.keys.symm.trans hks
  have hl : vs.length = ks.length := by
    have e := congrArg List.length hkeys
    rw [List.length_map, List.length_map] at e
    exact e
  have hlk : kvs.length = ks.length := by
    have e := congrArg List.length hks
    rw [List.length_map, List.length_map] at e
    exact e
  have h16 : vs.length ≤ sizeLine := by rw [hl, ← hlk]; exact z
  refine PyProof.Rows.call_function_entry_kw PyProof.Rows.kind_sorted PyProof.Rows.plain_sorted PyProof.Rows.entry_sorted (PyProof.Rows.ksk_s1 _ _) ?_
  unfold Builtin.«sorted»
  refine wpAny_bind (m := checkCount "sorted" 1 1 _) (wpAny_pure ?_)
  refine wpAny_bind (PySem.W.kdu_collect (A := X.A.in1) (PySem.W.kdl_dict (knd := mixKind X.prog X.w) (kvs := vs) (ep := ep) lo) (I.ok.hd hcalm) hat h16 fun h' tk acc hk hacc => ?_)
  have hal : acc.toList.length = ks.length := by rw [Array.length_toList, hacc.1, hl]
  have hS : PySem.W.EachIs (fun v w => ∃ t, v = Value.str w t) acc.toList ks := Fp.strs_each hal fun j v e => by
    obtain ⟨k, x, e1, e2⟩ := hacc.2 j v (by rw [← Array.getElem?_toList]; exact e)
    have e3 : (vs.map (·.1))[j]? = some k := by rw [List.getElem?_map, e1]; all_goals rfl
    rw [hkeys, List.getElem?_map] at e3
    cases e4 : ks[j]? with
    | none => rw [e4] at e3; cases e3
    | some y =>
      rw [e4] at e3
      have e5 : Sum.inr y = k := Option.some.inj e3
      subst e5
      obtain ⟨t, ev⟩ := Value.isStrOf_shape (x := y) (v := v) e2
      exact ⟨y, t, rfl, ev⟩
  have I1 : Inv X pins σ H { s with heap := h', toks := tk } := I.kept hk
  refine wpAny_bind (wpAny_newList ?_ (by rw [hal, ← hlk]; exact z))
  have hoL : (h'.push (seqObj "list" acc.toList.toArray 0)).get? h'.objs.size = some (seqObj "list" acc.toList.toArray 0) := Heap.get?_push_size _ rfl
  show wpAny _ _ _ _ _ { s with heap := h'.push (seqObj "list" acc.toList.toArray 0), toks := tk }
  refine wpAny_bind (wpAny_holding (wpAny_call_entry_kw slot_list_sort ⟨_, hoL, rfl⟩ entry_list_sort ?body (PyProof.Rows.ksk_l1 _ _)))
  case body =>
    show wpAny (model X.prog X.w) X.A.in1.in1 (Builtin.«list.sort» ⟨[.ref h'.objs.size], [(Str.ofString "key", .ref fR)]⟩) _ _ _
    rw [ksk_t1]
    have hun := hr.un
    have hdp := hr.dp
    refine PySem.W.keyH_tree (kz := ks.map Fp.rk) (s := { s with heap := h'.push (seqObj "list" acc.toList.toArray 0), toks := tk }) hoL (by rw [List.length_map]; exact hal.symm) (by rw [hal, ← hlk]; exact z) (Fp.rk_all ks) (Fp.rk_sortable ks)
      (fun d hd => by
        obtain ⟨w, _, rfl⟩ := List.mem_map.mp hd
        have := Fp.rk_depth w
        show X.A.units + 1 + 1 + _ < _
        omega)
      (PySem.W.keyH_turns (s := { s with heap := h'.push (seqObj "list" acc.toList.toArray 0), toks := tk }) hS fun v x hR hx h tk2 kp => ?_) fun h2 tk2 out c kp hD ko => ⟨_, rfl, ?_⟩
    · obtain ⟨t, rfl⟩ := hR
      refine Fp.rank_call (s := { s with heap := h, toks := tk2 }) F I.ok.mod (fun b o e => ?_) hlen ?_ (hwl x hx)
      · have e1 : s.heap.get? b = some o := I.bk b o e
        have e2 : h'.get? b = some o := hk b o e1
        exact kp b o (Nat.ne_of_lt (Heap.lt_size e2)) (Heap.get?_push_of_some _ e2)
      · show X.A.depth + 1 < _
        omega
    · have ev := PySem.W.keyedOut_each Fp.rk ko hS
      have hlen2 : ((ks.mergeSort Fp.leR).map V.str).length ≤ sizeLine := by
        rw [List.length_map, List.length_mergeSort, ← hlk]
        exact z
      refine wpAny_pure ⟨_, rfl, .ref h'.objs.size, upd H h'.objs.size (.lst ((ks.mergeSort Fp.leR).map V.str)), I1.laid (t' := tk2) (fun b u e => kp b u (Nat.ne_of_lt (Heap.lt_size e)) (Heap.get?_push_of_some _ e)) (Nat.le_refl _)
        (show ObjOk X.prog X.w _ _ _ (.lst ((ks.mergeSort Fp.leR).map V.str)) from ⟨hlen2, out, c, Fp.vals_strs ev, hD⟩), rfl, q _ (I1.hok.fresh (Nat.le_refl _))⟩
/-- sorted(xs), xs a list of pairs of an int and a text -/
def rSortIS (K : PySem.W.Frag) : List V → Hp → VK → Prop := fun vs H Q => ∃ (a : Addr) (ps : List Fp.IS), vs = [.ref a] ∧ SqL K H a (ps.map fun p => V.ref p.1) ∧ (∀ p ∈ ps, H p.1 = some (.tup [.int p.2.1, .str p.2.2])) ∧
  ∀ p, H p = none → Q (.ref p) (upd H p (.lst ((ps.mergeSort Fp.leIS).map fun p => V.ref p.1)))
theorem cr_sortIS (hr : Room 1 X.A) : CallR X (.builtin "sorted") (rSortIS X.K) := by
  intro pins s σ H vs us Q I r h
  obtain ⟨a, ps, rfl, hs, hp, q⟩ := h
  obtain rfl := Vals.ref1 r
  obtain ⟨its, rv, hl, hz⟩ := I.list hs
  have hE := Fp.refs_each rv
  have hl2 : its.length = ps.length := by rw [← rv.length, List.length_map]
  have hun := hr.un
  have hz2 : ps.length ≤ sizeLine := by rw [List.length_map] at hz; exact hz
  refine PySem.W.sorted_data (enc := Fp.enIS) (bs := ps) hl.isList hE ?_ (Fp.is_all ps) (Fp.is_sortable ps) hz2 (fun b hb => ?_) fun out hlo ho => ?_
  · refine PySem.W.EachIs.of_zip hl2 fun z hz => ?_
    obtain ⟨v, p⟩ := z
    have hv : v = Value.ref p.1 := PySem.W.EachIs.zip hE (v, p) hz
    have hm : p ∈ ps := (List.of_mem_zip hz).2
    obtain ⟨_, its2, r2, o, h1, h2, n, h3⟩ := I.hok _ _ (hp p hm)
    obtain ⟨u1, u2, rfl, ⟨t1, e1⟩, ⟨t2, e2⟩⟩ := vals2 r2
    subst hv e1 e2
    exact ⟨_, Reads.tuple h1 h2 h3 (ReadsAll.cons (Reads.int _ _) (ReadsAll.cons (Reads.str _ _) ReadsAll.nil))⟩
  · have := Fp.is_depth b
    omega
  · obtain ⟨ep, he'⟩ := PyProof.Rows.sortedAll_at s.heap its out.toArray
    have hlen : ((ps.mergeSort Fp.leIS).map fun p => V.ref p.1).length ≤ sizeLine := by
      rw [List.length_map, List.length_mergeSort]
      exact hz2
    exact ⟨.ref _, upd H (s.heap.objs.size + 1) (.lst ((ps.mergeSort Fp.leIS).map fun p => V.ref p.1)), I.laid (t' := s.toks) (fun _ _ => PyProof.Rows.sortedAll_old) (Nat.le_succ _) ⟨hlen, out, ep, Fp.each_refs ho, he'⟩, rfl, q _ (I.hok.fresh (Nat.le_succ _))⟩
end
end L2

set_option Elab.async false
set_option linter.all false
set_option maxRecDepth 100000
set_option maxHeartbeats 2000000
/-! what is shared: a def by its name, heaps, tables of words -/
namespace L2
open PySem PySem.Spec PyProof.Rows
/-- a tuple as tuple() makes it: no dict of its own -/
def PlainTup (o : Obj) : Prop := o.cls = .type "tuple" ∧ o.dict = none ∧ ∃ (its : Array Value) (n : Nat), o.data = .seq its n
section
variable {X : Cx}
/-- tuple(l): a new tuple, its object known -/
theorem call_tupleF : CallR X (.type "tuple") (fun xs H Q => ∃ p ys, xs = [.ref p] ∧ SqL X.K H p ys ∧ ∀ l o, H l = none → PlainTup o → Q (.ref l) (upd H l (.frz o (.tup ys)))) := by
  intro pins s σ H xs us Q I r h
  obtain ⟨p, ys, rfl, hq, q⟩ := h
  obtain ⟨u, rfl, rx⟩ := vals1 r
  cases rx
  obtain ⟨its, r', pl, hz⟩ := I.list hq
  have hlen := r'.length
  refine call_tuple_list pl.isList (fun h' kp => ?_) (by simp only [List.size_toArray] <;> omega)
  have I1 : Inv X pins σ H { s with heap := h' } := I.kept (t' := s.toks) kp
  have I2 : Inv X pins σ (upd H h'.objs.size (.frz { cls := .type "tuple", data := .seq its.toArray } (.tup ys))) { s with heap := h'.push { cls := .type "tuple", data := .seq its.toArray } } :=
    I1.laid (t' := s.toks) (fun b o e => Heap.get?_push_of_some _ e) (Nat.le_refl _) (show ObjOk X.prog X.w _ _ _ (.frz _ (.tup ys)) from ⟨Heap.get?_push_size _ rfl, hz, its, r', IsTup.new _ _⟩)
  exact ⟨.ref h'.objs.size, _, I2, rfl, q _ _ (I1.hok.fresh (Nat.le_refl _)) ⟨rfl, rfl, _, _, rfl⟩⟩
theorem refs_get : ∀ {ps : List Addr} {us : List Value}, Vals (ps.map V.ref) us → us = ps.map Value.ref
  | [], _, h => by cases h; rfl
  | p :: ps, _, h => by
    cases h with
    | cons r t =>
      cases r
      rw [refs_get t] <;> rfl
/-- dict(t), t such a tuple of pairs -/
theorem call_dictPT (hcalm : X.calm = true) : CallR X (.type "dict") (fun xs H Q => ∃ (a : Addr) (o : Obj) (ps : List Addr) (kvs : List (Key × V)), xs = [.ref a] ∧ H a = some (.frz o (.tup (ps.map V.ref))) ∧ PlainTup o ∧ Paired (fun p kv => SqT X.K H p [kV kv.1, kv.2]) ps kvs ∧
    ∀ p, H p = none → Q (.ref p) (upd H p (.dK (mergeK [] kvs)))) := by
  intro pins s σ H xs us Q I r q
  obtain ⟨a, o, ps, kvs, ex, hq, ⟨pc, pd, pits, pn, pdat⟩, hp, q⟩ := q
  subst ex
  obtain ⟨u, eu, rx⟩ := vals1 r
  subst eu
  cases rx
  obtain ⟨ho, hz, its, rv, o2, ho2, hc2, n2, hdat2⟩ := (show ObjOk X.prog X.w H s.heap a (.frz o (.tup (ps.map V.ref))) from I.hok a _ hq)
  rw [ho] at ho2
  cases ho2
  have ei := refs_get rv
  subst ei
  rw [List.length_map] at hz
  obtain ⟨prs, rel, hl, hpr⟩ := pairs_of I hp
  -- the keys' values
  have hks : ∃ us : List Value, us.length = prs.length ∧ ∀ (j : Nat) (q : Key × Value), prs[j]? = some q → ∃ (b : Addr) (u : Value), us[j]? = some u ∧ ps[j]? = some b ∧ IsTup s.heap b #[u, q.2] ∧ keyIs q.1 u = true := by
    have hall : ∀ j : Nat, j < prs.length → ∃ u : Value, ∀ q, prs[j]? = some q → ∃ b, ps[j]? = some b ∧ IsTup s.heap b #[u, q.2] ∧ keyIs q.1 u = true := fun j hj => by
      obtain ⟨b, u, e1, e2, e3⟩ := hpr j prs[j] (List.getElem?_eq_getElem hj)
      refine ⟨u, fun q e => ?_⟩
      rw [List.getElem?_eq_getElem hj] at e
      cases e
      exact ⟨b, e1, e2, e3⟩
    let f : Nat → Value := fun j => if hj : j < prs.length then Classical.choose (hall j hj) else .none
    refine ⟨(List.range prs.length).map f, by simp, fun j q e => ?_⟩
    have hj : j < prs.length := (List.getElem?_eq_some_iff.mp e).1
    have hsp := Classical.choose_spec (hall j hj) q e
    obtain ⟨b, e1, e2, e3⟩ := hsp
    refine ⟨b, f j, by simp [hj], e1, ?_, ?_⟩
    · show IsTup s.heap b #[f j, q.2]
      have : f j = Classical.choose (hall j hj) := dif_pos hj
      rw [this]
      exact e2
    · have : f j = Classical.choose (hall j hj) := dif_pos hj
      rw [this]
      exact e3
  obtain ⟨us, hus, hk⟩ := hks
  let vps : List (Value × Value) := us.zip (prs.map (·.2))
  have hvl : vps.length = prs.length := by simp [vps, hus]
  have hget : ∀ j k v, vps[j]? = some (k, v) → ∃ q : Key × Value, prs[j]? = some q ∧ q.2 = v ∧ us[j]? = some k := fun j k v e => by
    obtain ⟨e1, e2⟩ := List.getElem?_zip_eq_some.mp e
    rw [List.getElem?_map] at e2
    cases e3 : prs[j]? with
    | none => rw [e3] at e2; cases e2
    | some q =>
      rw [e3] at e2
      exact ⟨q, e3, Option.some.inj e2, e1⟩
  refine PySem.call_dict_pairs (knd := mixKind X.prog X.w) (kvs := prs) (PairArg.tuple a (ps.map Value.ref).toArray (fun j => ps.getD j 0) vps) (I.ok.hd hcalm) ⟨⟨o, n2, ho, pc, pd, hdat2⟩, ?_, fun j k v e => ?_⟩ ⟨hvl.symm, fun j k v e => ?_⟩ (by rw [hvl, hl]; exact hz) fun h' tk hd' kp => ?_
  · rw [hvl, hl]
    simp
  · obtain ⟨q, e1, e2, e3⟩ := hget j k v e
    obtain ⟨b, u, f1, f2, f3, f4⟩ := hk j q e1
    rw [e3] at f1
    cases f1
    subst e2
    refine ⟨?_, .inl ?_⟩
    · simp [List.getD, f2]
    · show IsTup s.heap (ps.getD j 0) #[k, q.2]
      rw [show ps.getD j 0 = b by simp [List.getD, f2]]
      exact f3
  · obtain ⟨q, e1, e2, e3⟩ := hget j k v e
    obtain ⟨b, u, f1, f2, f3, f4⟩ := hk j q e1
    rw [e3] at f1
    cases f1
    exact ⟨q.1, by rw [e1, ← e2], f4⟩
  · have hm : (s.heap.objs.size == sysModules) = false := beq_eq_false_iff_ne.mpr (Nat.ne_of_gt I.big)
    have hlen : (mergeK [] kvs).length ≤ sizeLine := by
      refine Nat.le_trans (length_mergeK kvs []) ?_
      rw [List.length_nil, Nat.zero_add, rel.length, hl]
      exact hz
    exact ⟨.ref s.heap.objs.size, upd H s.heap.objs.size (.dK (mergeK [] kvs)), I.laid (t' := tk) (fun b o e => kp b o (by simp) e) (Nat.le_refl _) (show ObjOk X.prog X.w _ _ _ (.dK (mergeK [] kvs)) from ⟨hlen, hm, merged [] prs, KV.merge rel .nil, hd'⟩), rfl, q _ (I.hok.fresh (Nat.le_refl _))⟩
end
end L2
namespace Fp
open PySem PySem.Spec PyProof.Rows L2
/-! ### a def of the top by its name -/
structure Ok (P : Program) (w : World) (K : PySem.W.Frag) (mg : Str → Option Value) (base : Heap) (k : Nat) (x : Str) (ps : List Str) (sp : Sp) : Prop where
  ex : ∃ fd, FnOk P w K mg base CX0 k (He.ga K x) fd ps sp ∧ Binds K fd ps []
  g : mg x = some (.ref (He.ga K x))
  kp : PySem.W.keepIn K (.ref (He.ga K x)) = true
theorem pc {X : Cx} {x : Str} {p pos : Pos} {e : Expr} {es : List Expr} {t : TA} {k : Nat} {ps : List Str} {sp : Sp} (G : Ok X.prog X.w X.K X.mg X.base k x ps sp) (hr : Room k X.A) (ha : PA X (e :: es) t) (hg : Gl X x := by rfl) (hdb : (x == ("__debug__" : Str)) = false := by decide)
    (he : starEach (e :: es) X.env = (false, eval e X.env) :: starEach es X.env := by rfl) (hpl : (backTo pos (starEach es X.env)).any (·.1) = false := by rfl) : PE X (.Call (.Name x p) (e :: es) [] pos) (tCall sp [] E0 t) := by
  obtain ⟨fd, F, b⟩ := G.ex
  exact pe_call F hr hg G.g G.kp b .nil pass0 ha hdb he hpl
theorem Ok.mono {P : Program} {w : World} {K : PySem.W.Frag} {mg : Str → Option Value} {base : Heap} {j k : Nat} {x : Str} {ps : List Str} {sp : Sp} (G : Ok P w K mg base j x ps sp) (h : j ≤ k) : Ok P w K mg base k x ps sp := by
  obtain ⟨fd, F, b⟩ := G.ex
  exact ⟨⟨fd, F.mono h, b⟩, G.g, G.kp⟩
/-! ### heaps -/
/-- all that was tracked stays, but for a -/
def But (a : Addr) (H H' : Hp) : Prop := ∀ b o, H b = some o → b ≠ a → H' b = some o
theorem But.refl (a : Addr) (H : Hp) : But a H H := fun _ _ e _ => e
theorem But.trans {a : Addr} {H H1 H2 : Hp} (x : But a H H1) (y : But a H1 H2) : But a H H2 := fun b o e n => y b o (x b o e n) n
theorem But.of {a : Addr} {H H' : Hp} (s : Same H H') : But a H H' := fun b o e _ => s b o e
theorem But.free {a : Addr} {H H' : Hp} (x : But a H H') (hs : ∃ o, H' a = some o) {l : Addr} (e : H' l = none) : H l = none := by
  cases q : H l with
  | none => rfl
  | some o =>
    by_cases hl : l = a
    · obtain ⟨u, hu⟩ := hs
      rw [hl] at e
      rw [hu] at e
      cases e
    · rw [x l o q hl] at e
      cases e
theorem same_upd {H : Hp} {p : Addr} {o : HO} (h : H p = none) : Same H (upd H p o) := fun b x e => by
  rw [upd_ne (ne_of_none e h)]
  exact e
theorem but_upd {H : Hp} {p : Addr} {o : HO} : But p H (upd H p o) := fun b x e n => by
  rw [upd_ne n]
  exact e
theorem lock_back {H : Hp} {d : Addr} {o u : HO} (h : H d = some o) (e : o = u) : upd (upd H d u) d o = H := by
  subst e
  rw [upd_upd]
  funext b
  by_cases hb : b = d
  · rw [hb, upd_same, h]
  · rw [upd_ne hb]
/-! ### tables: words with numbers, in the order in which they were put in -/
abbrev Tb : Type := List (Str × Int)
def kv (l : Tb) : List (Key × V) := l.map fun p => ((Sum.inr p.1 : Key), V.int p.2)
def num (l : Tb) (x : Str) : Int := ((l.find? fun p => decide (p.1 = x)).map (·.2)).getD 0
def has (l : Tb) (x : Str) : Bool := l.any fun p => decide (p.1 = x)
def putT (l : Tb) (x : Str) (n : Int) : Tb := if has l x then l.map (fun p => if p.1 = x then (p.1, n) else p) else l ++ [(x, n)]
def dropT (l : Tb) (x : Str) : Tb := l.filter fun p => decide (p.1 ≠ x)
theorem kv_len (l : Tb) : (kv l).length = l.length := List.length_map _
theorem kv_keys (l : Tb) : (kv l).map (·.1) = (l.map (·.1)).map Sum.inr := by
  unfold kv
  rw [List.map_map, List.map_map]
  rfl
theorem valV_kv (x : Str) : ∀ l : Tb, valV (kv l) (Sum.inr x : Key) = (l.find? fun p => decide (p.1 = x)).map fun p => V.int p.2
  | [] => rfl
  | p :: r => by
    have ih := valV_kv x r
    by_cases e : p.1 = x
    · rw [List.find?_cons_of_pos (by simpa using e)]
      exact valV_pos (p := ((Sum.inr p.1 : Key), V.int p.2)) (by rw [e])
    · rw [List.find?_cons_of_neg (by simpa using e)]
      exact (valV_neg (p := ((Sum.inr p.1 : Key), V.int p.2)) (fun z => e (Sum.inr.inj z))).trans ih
theorem has_find (l : Tb) (x : Str) : has l x = (l.find? fun p => decide (p.1 = x)).isSome := by
  unfold has
  induction l with
  | nil => rfl
  | cons p r ih =>
    by_cases e : p.1 = x
    · rw [List.find?_cons_of_pos (by simpa using e), List.any_cons]
      simp [e]
    · rw [List.find?_cons_of_neg (by simpa using e), List.any_cons, ih]
      simp [e]
theorem valV_yes {l : Tb} {x : Str} (h : has l x = true) : valV (kv l) (Sum.inr x : Key) = some (.int (num l x)) := by
  rw [valV_kv]
  rw [has_find] at h
  unfold num
  cases e : l.find? fun p => decide (p.1 = x) with
  | none => rw [e] at h; cases h
  | some p => rfl
theorem valV_no {l : Tb} {x : Str} (h : has l x = false) : valV (kv l) (Sum.inr x : Key) = none ∧ num l x = 0 := by
  rw [valV_kv]
  rw [has_find] at h
  unfold num
  cases e : l.find? fun p => decide (p.1 = x) with
  | none => exact ⟨rfl, rfl⟩
  | some p => rw [e] at h; cases h
theorem putK_kv (l : Tb) (x : Str) (n : Int) : putK (kv l) (Sum.inr x : Key) (.int n) = kv (putT l x n) := by
  have ea : ((kv l).any fun q => decide (q.1 = (Sum.inr x : Key))) = has l x := by
    unfold kv has
    rw [List.any_map]
    congr 1
    funext p
    by_cases e : p.1 = x
    · simp [e]
    · simp [e]
  unfold putK putT
  rw [ea]
  cases has l x with
  | true =>
    rw [if_pos rfl, if_pos rfl]
    unfold kv
    rw [List.map_map, List.map_map]
    apply List.map_congr_left
    intro p _
    by_cases e : p.1 = x
    · simp [e]
    · simp [e]
  | false =>
    rw [if_neg Bool.false_ne_true, if_neg Bool.false_ne_true]
    unfold kv
    rw [List.map_append]
    rfl
theorem dropK_kv (l : Tb) (x : Str) : dropK (kv l) (Sum.inr x : Key) = kv (dropT l x) := by
  unfold dropK dropT kv
  rw [List.filter_map]
  congr 1
  apply List.filter_congr
  intro p _
  by_cases e : p.1 = x
  · simp [e]
  · simp [e]
/-- a table of distinct words -/
def Nd (l : Tb) : Prop := (l.map (·.1)).Nodup
theorem has_iff {l : Tb} {x : Str} : has l x = true ↔ x ∈ l.map (·.1) := by
  unfold has
  rw [List.any_eq_true]
  constructor
  · rintro ⟨p, hp, e⟩
    exact List.mem_map.mpr ⟨p, hp, of_decide_eq_true e⟩
  · intro h
    obtain ⟨p, hp, e⟩ := List.mem_map.mp h
    exact ⟨p, hp, decide_eq_true e⟩
theorem putT_keys {l : Tb} {x : Str} {n : Int} : (putT l x n).map (·.1) = if has l x then l.map (·.1) else l.map (·.1) ++ [x] := by
  unfold putT
  cases has l x with
  | true =>
    rw [if_pos rfl, if_pos rfl, List.map_map]
    apply List.map_congr_left
    intro p _
    by_cases e : p.1 = x
    · simp [e]
    · simp [e]
  | false =>
    rw [if_neg Bool.false_ne_true, if_neg Bool.false_ne_true, List.map_append]
    rfl
theorem nd_put {l : Tb} (h : Nd l) (x : Str) (n : Int) : Nd (putT l x n) := by
  unfold Nd
  rw [putT_keys]
  cases e : has l x with
  | true => exact h
  | false =>
    rw [if_neg Bool.false_ne_true, List.nodup_append]
    refine ⟨h, by simp, fun a ha b hb => ?_⟩
    have : b = x := by simpa using hb
    subst this
    rintro rfl
    rw [has_iff.mpr ha] at e
    cases e
theorem nd_drop {l : Tb} (h : Nd l) (x : Str) : Nd (dropT l x) := by
  unfold Nd dropT
  exact (List.Sublist.map _ List.filter_sublist).nodup h
theorem mem_put {l : Tb} {x : Str} {n : Int} {p : Str × Int} (h : p ∈ putT l x n) : p = (x, n) ∨ p ∈ l := by
  unfold putT at h
  cases e : has l x with
  | true =>
    rw [e, if_pos rfl] at h
    obtain ⟨q, hq, e2⟩ := List.mem_map.mp h
    by_cases e3 : q.1 = x
    · rw [if_pos e3, e3] at e2
      exact .inl e2.symm
    · rw [if_neg e3] at e2
      exact .inr (e2 ▸ hq)
  | false =>
    rw [e, if_neg Bool.false_ne_true] at h
    rcases List.mem_append.mp h with h | h
    · exact .inr h
    · exact .inl (by simpa using h)
theorem len_put (l : Tb) (x : Str) (n : Int) : (putT l x n).length ≤ l.length + 1 := by
  unfold putT
  split
  · rw [List.length_map]
    omega
  · rw [List.length_append]
    simp
end Fp

set_option Elab.async false
set_option linter.all false
set_option maxRecDepth 100000
set_option maxHeartbeats 2000000
/-! a written dict from ints to tuples of ints, read: d[k] -/
namespace L2
open PySem PySem.Spec PyProof.Rows
abbrev WTab : Type := List (Int × List Int)
def intsB : List Int → List Value → Bool
  | [], [] => true
  | n :: ns, .int i _ :: vs => decide (i = n) && intsB ns vs
  | _, _ => false
theorem intsB_vals : ∀ (ns : List Int) (vs : List Value), intsB ns vs = true → Vals (ns.map V.int) vs
  | [], [], _ => .nil
  | n :: ns, .int i t :: vs, h => by
    have h' : (decide (i = n) && intsB ns vs) = true := h
    rw [Bool.and_eq_true] at h'
    have e : i = n := of_decide_eq_true h'.1
    subst e
    exact .cons ⟨t, rfl⟩ (intsB_vals ns vs h'.2)
def tupO (K : PySem.W.Frag) (a : Addr) (ns : List Int) : Bool := match K.lookup a with
  | some o => (match o.cls, o.data with
    | .type c, .seq its _ => decide (c = "tuple") && (decide (its.size ≤ sizeLine) && intsB ns its.toList)
    | _, _ => false)
  | none => false
theorem tupO_sq {K : PySem.W.Frag} {a : Addr} {ns : List Int} (h : tupO K a ns = true) (H : Hp) : SqT K H a (ns.map V.int) := by
  unfold tupO at h
  split at h
  · rename_i o ho
    split at h
    · rename_i c its n hc hd
      simp only [Bool.and_eq_true, decide_eq_true_eq] at h
      obtain ⟨h1, h2, h3⟩ := h
      subst h1
      exact .inr ⟨o, its, n, ho, hc, hd, h2, intsB_vals _ _ h3⟩
    · cases h
  · cases h
def entB (K : PySem.W.Frag) : WTab → List DictEntry → Bool
  | [], [] => true
  | p :: r, e :: es => (match e.key, e.val with
    | .int i _, .ref a => decide (i = p.1) && (decide (e.hash = hashInt p.1) && tupO K a p.2)
    | _, _ => false) && entB K r es
  | _, _ => false
def wdB (K : PySem.W.Frag) (a : Addr) (t : WTab) : Bool := match K.lookup a with
  | some o => (match o.cls, o.dict, o.data with
    | .type c, none, .dict es _ => decide (c = "dict") && (decide (o.slots.size = 0) && entB K t es.toList)
    | _, _, _ => false)
  | none => false
theorem entB_pairs {P : Program} {w : World} {K : PySem.W.Frag} : ∀ (t : WTab) (es : List DictEntry), entB K t es = true → ∃ vs : List (Key × Value), Pairs (mixKind P w) es vs ∧ (∀ e ∈ es, ∃ k, (mixKind P w).is k e.key = true ∧ e.hash = (mixKind P w).hash k) ∧
    Paired (fun (p : Int × List Int) (v : Key × Value) => v.1 = Sum.inl p.1 ∧ ∃ b, v.2 = .ref b ∧ tupO K b p.2 = true) t vs
  | [], [], _ => ⟨[], .nil, (fun e he => by cases he), .nil⟩
  | p :: r, e :: es, h => by
    unfold entB at h
    rw [Bool.and_eq_true] at h
    obtain ⟨h1, h2⟩ := h
    obtain ⟨vs, a1, a2, a3⟩ := entB_pairs r es h2
    obtain ⟨eh, ek, ev⟩ := e
    cases ek with
    | int i tk =>
      cases ev with
      | ref a =>
        have h1 : (decide (i = p.1) && (decide (eh = hashInt p.1) && tupO K a p.2)) = true := h1
        simp only [Bool.and_eq_true, decide_eq_true_eq] at h1
        obtain ⟨e1, e2, e3⟩ := h1
        subst e1
        refine ⟨(Sum.inl p.1, .ref a) :: vs, .cons (keyIs_int _ tk) rfl a1, (fun x hx => ?_), .cons ⟨rfl, a, rfl, e3⟩ a3⟩
        rcases List.mem_cons.mp hx with rfl | hx
        · exact ⟨Sum.inl p.1, keyIs_int _ tk, e2⟩
        · exact a2 x hx
      | _ => exact absurd h1 (by simp)
    | _ => exact absurd h1 (by simp)
theorem pairs_find {K : PySem.W.Frag} {t : WTab} {vs : List (Key × Value)} (h : Paired (fun (p : Int × List Int) (v : Key × Value) => v.1 = Sum.inl p.1 ∧ ∃ b, v.2 = .ref b ∧ tupO K b p.2 = true) t vs) (hn : (t.map (·.1)).Nodup) :
    (vs.map (·.1)).Nodup ∧ (∀ v ∈ vs, ∃ p ∈ t, v.1 = Sum.inl p.1) ∧ ∀ p ∈ t, ∃ b, valueAt vs (Sum.inl p.1 : Key) = some (.ref b) ∧ tupO K b p.2 = true := by
  induction h with
  | nil => exact ⟨List.nodup_nil, fun v hv => (by cases hv), fun p hp => (by cases hp)⟩
  | @cons p v t vs e r ih =>
    have hn' : (p.1 :: t.map (·.1)).Nodup := hn
    obtain ⟨n1, n2⟩ := List.nodup_cons.mp hn'
    obtain ⟨i1, i2, i3⟩ := ih n2
    obtain ⟨e1, b, e2, e3⟩ := e
    refine ⟨?_, fun u hu => ?_, fun q hq => ?_⟩
    · rw [List.map_cons, List.nodup_cons]
      refine ⟨fun hm => ?_, i1⟩
      obtain ⟨u, hu, eu⟩ := List.mem_map.mp hm
      obtain ⟨q, hq, eq⟩ := i2 u hu
      have : (Sum.inl q.1 : Key) = Sum.inl p.1 := (eq.symm.trans eu).trans e1
      injection this with this
      exact n1 (this ▸ List.mem_map.mpr ⟨q, hq, rfl⟩)
    · rcases List.mem_cons.mp hu with rfl | hu
      · exact ⟨p, List.mem_cons_self, e1⟩
      · obtain ⟨q, hq, eq⟩ := i2 u hu
        exact ⟨q, List.mem_cons_of_mem _ hq, eq⟩
    · unfold valueAt
      rcases List.mem_cons.mp hq with rfl | hq
      · rw [List.find?_cons_of_pos (by simp [e1])]
        exact ⟨b, by rw [Option.map_some, e2], e3⟩
      · obtain ⟨b', h1, h2⟩ := i3 q hq
        refine ⟨b', ?_, h2⟩
        rw [List.find?_cons_of_neg]
        · exact h1
        · rw [e1]
          intro z
          have z' : (Sum.inl p.1 : Key) = Sum.inl q.1 := of_decide_eq_true z
          injection z' with z'
          exact n1 (z' ▸ List.mem_map.mpr ⟨q, hq, rfl⟩)
/-- d[k], d written -/
def tWD (K : PySem.W.Frag) (t : WTab) (ta tb : TE) : TE := fun σ H Q => ta σ H fun x H1 => tb σ H1 fun y H2 => ∃ (a : Addr) (k : Int) (ns : List Int), x = .ref a ∧ wdB K a t = true ∧ y = .int k ∧ (k, ns) ∈ t ∧ ∀ b, tupO K b ns = true → Q (.ref b) H2
theorem pe_wd {X : Cx} {t : WTab} {o i : Expr} {ta tb : TE} {pos : Pos} (hn : (t.map (·.1)).Nodup) (ho : PE X o ta) (hi : PE X i tb) (hs : NoSl i) : PE X (.Subscript o i pos) (tWD X.K t ta tb) := by
  constructor
  intro pins s σ H Q I h
  refine subD_of PySem.F.slot_dict_getitem.lookup hs (thn (ho.run pins s σ H _ I h) fun u s1 ⟨x, H1, I1, rx, q1⟩ => thn (hi.run pins s1 σ H1 _ I1 q1) fun iv s2 ⟨y, H2, I2, ry, a, k, ns, ex, hw, ey, hm, q2⟩ => ?_)
  subst ex
  subst ey
  cases rx
  obtain ⟨tk, rfl⟩ := ry
  unfold wdB at hw
  split at hw
  · rename_i ob hob
    split at hw
    · rename_i c es ep hc hd hdat
      simp only [Bool.and_eq_true, decide_eq_true_eq] at hw
      obtain ⟨w1, w2, w3⟩ := hw
      subst w1
      obtain ⟨vs, p1, p2, p3⟩ := entB_pairs (P := X.prog) (w := X.w) t es.toList w3
      obtain ⟨f1, f2, f3⟩ := pairs_find p3 hn
      obtain ⟨b, v1, v2⟩ := f3 (k, ns) hm
      have dd : s2.heap.DictOf (mixKind X.prog X.w) a vs := ⟨ob, es, ep, I2.kIn a ob hob, ⟨hc, hd, Array.eq_empty_of_size_eq_zero w2⟩, hdat, fun e he => p2 e (Array.mem_def.mp he), p1, f1⟩
      exact ⟨dd.typeIs, wpAny_getItem_of (knd := mixKind X.prog X.w) (k := (Sum.inl k : Key)) (keyIs_int k tk) dd.mapOf v1 ⟨.ref b, H2, I2.tok _, rfl, q2 b v2⟩⟩
    · cases hw
  · cases hw
end L2

set_option Elab.async false
set_option linter.all false
set_option maxRecDepth 100000
set_option maxHeartbeats 2000000
namespace Fp
open PySem PySem.Spec PyProof.Rows L2
def top (i : Nat) : Stmt := PySem.Challenge.pw_frontparts_k04_whole_mirrored_and_replac.main.body.getD i (.Pass ⟨0, 0, 0, 0⟩)
abbrev s_is_integer : Stmt := top 8
abbrev s_is_from_to : Stmt := top 9
abbrev s_is_clock : Stmt := top 10
abbrev s_is_word : Stmt := top 11
abbrev s_rank_of : Stmt := top 13
abbrev s_tidied : Stmt := top 14
abbrev s_added : Stmt := top 15
abbrev s_multiplied : Stmt := top 16
abbrev s_Bag__init__ : Stmt := inClass (top 20) 0
abbrev s_Bag__eq__ : Stmt := inClass (top 20) 1
abbrev s_are_words : Stmt := top 21
abbrev s_is_short_word : Stmt := top 22
abbrev s_pairs_of : Stmt := top 23
abbrev s_bag_of : Stmt := top 24
abbrev s_table_of : Stmt := top 25
abbrev s_is_bag : Stmt := top 26
abbrev s_check_clocks : Stmt := top 27
abbrev s_together : Stmt := top 28
abbrev s_behind : Stmt := top 29
abbrev s_mirrored : Stmt := top 30
abbrev s_replaced : Stmt := top 31
abbrev s_are_replacements : Stmt := top 32
abbrev s_length : Stmt := top 33
abbrev s__law_hand : Stmt := top 35
abbrev s__law_draw : Stmt := top 36
abbrev s__law_put : Stmt := top 37
abbrev s__law_plus : Stmt := top 38
abbrev s__law_product : Stmt := top 39
abbrev s__law_order : Stmt := top 40
abbrev s__law_words : Stmt := top 41
abbrev s__law_plain : Stmt := top 42
abbrev s__law_is : Stmt := top 43
abbrev s__law_clock : Stmt := top 44
abbrev s__law_word : Stmt := top 45
abbrev s__law_lot : Stmt := top 46
abbrev s__law_small : Stmt := top 47
abbrev s__law_woven : Stmt := top 48
abbrev s__law_some : Stmt := top 49
abbrev s__law_replaced : Stmt := top 50
abbrev s_law : Stmt := top 51
abbrev FnP (K : PySem.W.Frag) (x q : Str) (st : Stmt) (f : Addr) (fd : FuncData) : Prop := FunD K x q (defArgs st) (defBody st) (defScope st) [] [] f fd
def d_is_integer : He.DefD := ⟨("is_integer", none), "is_integer", "is_integer", defArgs s_is_integer, defBody s_is_integer, defScope s_is_integer, [], []⟩
def d_is_from_to : He.DefD := ⟨("is_from_to", none), "is_from_to", "is_from_to", defArgs s_is_from_to, defBody s_is_from_to, defScope s_is_from_to, [], []⟩
def d_is_clock : He.DefD := ⟨("is_clock", none), "is_clock", "is_clock", defArgs s_is_clock, defBody s_is_clock, defScope s_is_clock, [], []⟩
def d_is_word : He.DefD := ⟨("is_word", none), "is_word", "is_word", defArgs s_is_word, defBody s_is_word, defScope s_is_word, [], []⟩
def d_rank_of : He.DefD := ⟨("rank_of", none), "rank_of", "rank_of", defArgs s_rank_of, defBody s_rank_of, defScope s_rank_of, [], []⟩
def d_tidied : He.DefD := ⟨("tidied", none), "tidied", "tidied", defArgs s_tidied, defBody s_tidied, defScope s_tidied, [], []⟩
def d_added : He.DefD := ⟨("added", none), "added", "added", defArgs s_added, defBody s_added, defScope s_added, [], []⟩
def d_multiplied : He.DefD := ⟨("multiplied", none), "multiplied", "multiplied", defArgs s_multiplied, defBody s_multiplied, defScope s_multiplied, [], []⟩
def d_Bag__init__ : He.DefD := ⟨("Bag", some "__init__"), "__init__", "Bag.__init__", defArgs s_Bag__init__, defBody s_Bag__init__, defScope s_Bag__init__, [], []⟩
def d_Bag__eq__ : He.DefD := ⟨("Bag", some "__eq__"), "__eq__", "Bag.__eq__", defArgs s_Bag__eq__, defBody s_Bag__eq__, defScope s_Bag__eq__, [], []⟩
def d_are_words : He.DefD := ⟨("are_words", none), "are_words", "are_words", defArgs s_are_words, defBody s_are_words, defScope s_are_words, [], []⟩
def d_is_short_word : He.DefD := ⟨("is_short_word", none), "is_short_word", "is_short_word", defArgs s_is_short_word, defBody s_is_short_word, defScope s_is_short_word, [], []⟩
def d_pairs_of : He.DefD := ⟨("pairs_of", none), "pairs_of", "pairs_of", defArgs s_pairs_of, defBody s_pairs_of, defScope s_pairs_of, [], []⟩
def d_bag_of : He.DefD := ⟨("bag_of", none), "bag_of", "bag_of", defArgs s_bag_of, defBody s_bag_of, defScope s_bag_of, [], []⟩
def d_table_of : He.DefD := ⟨("table_of", none), "table_of", "table_of", defArgs s_table_of, defBody s_table_of, defScope s_table_of, [], []⟩
def d_is_bag : He.DefD := ⟨("is_bag", none), "is_bag", "is_bag", defArgs s_is_bag, defBody s_is_bag, defScope s_is_bag, [], []⟩
def d_check_clocks : He.DefD := ⟨("check_clocks", none), "check_clocks", "check_clocks", defArgs s_check_clocks, defBody s_check_clocks, defScope s_check_clocks, [], []⟩
def d_together : He.DefD := ⟨("together", none), "together", "together", defArgs s_together, defBody s_together, defScope s_together, [], []⟩
def d_behind : He.DefD := ⟨("behind", none), "behind", "behind", defArgs s_behind, defBody s_behind, defScope s_behind, [], []⟩
def d_mirrored : He.DefD := ⟨("mirrored", none), "mirrored", "mirrored", defArgs s_mirrored, defBody s_mirrored, defScope s_mirrored, [], []⟩
def d_replaced : He.DefD := ⟨("replaced", none), "replaced", "replaced", defArgs s_replaced, defBody s_replaced, defScope s_replaced, [], []⟩
def d_are_replacements : He.DefD := ⟨("are_replacements", none), "are_replacements", "are_replacements", defArgs s_are_replacements, defBody s_are_replacements, defScope s_are_replacements, [], []⟩
def d_length : He.DefD := ⟨("length", none), "length", "length", defArgs s_length, defBody s_length, defScope s_length, [], []⟩
def d__law_hand : He.DefD := ⟨("_law_hand", none), "_law_hand", "_law_hand", defArgs s__law_hand, defBody s__law_hand, defScope s__law_hand, [], []⟩
def d__law_draw : He.DefD := ⟨("_law_draw", none), "_law_draw", "_law_draw", defArgs s__law_draw, defBody s__law_draw, defScope s__law_draw, [], []⟩
def d__law_put : He.DefD := ⟨("_law_put", none), "_law_put", "_law_put", defArgs s__law_put, defBody s__law_put, defScope s__law_put, [], []⟩
def d__law_plus : He.DefD := ⟨("_law_plus", none), "_law_plus", "_law_plus", defArgs s__law_plus, defBody s__law_plus, defScope s__law_plus, [], []⟩
def d__law_product : He.DefD := ⟨("_law_product", none), "_law_product", "_law_product", defArgs s__law_product, defBody s__law_product, defScope s__law_product, [], []⟩
def d__law_order : He.DefD := ⟨("_law_order", none), "_law_order", "_law_order", defArgs s__law_order, defBody s__law_order, defScope s__law_order, [], []⟩
def d__law_words : He.DefD := ⟨("_law_words", none), "_law_words", "_law_words", defArgs s__law_words, defBody s__law_words, defScope s__law_words, [], []⟩
def d__law_plain : He.DefD := ⟨("_law_plain", none), "_law_plain", "_law_plain", defArgs s__law_plain, defBody s__law_plain, defScope s__law_plain, [], []⟩
def d__law_is : He.DefD := ⟨("_law_is", none), "_law_is", "_law_is", defArgs s__law_is, defBody s__law_is, defScope s__law_is, [], []⟩
def d__law_clock : He.DefD := ⟨("_law_clock", none), "_law_clock", "_law_clock", defArgs s__law_clock, defBody s__law_clock, defScope s__law_clock, [], []⟩
def d__law_word : He.DefD := ⟨("_law_word", none), "_law_word", "_law_word", defArgs s__law_word, defBody s__law_word, defScope s__law_word, [], []⟩
def d__law_lot : He.DefD := ⟨("_law_lot", none), "_law_lot", "_law_lot", defArgs s__law_lot, defBody s__law_lot, defScope s__law_lot, [], []⟩
def d__law_small : He.DefD := ⟨("_law_small", none), "_law_small", "_law_small", defArgs s__law_small, defBody s__law_small, defScope s__law_small, [], []⟩
def d__law_woven : He.DefD := ⟨("_law_woven", none), "_law_woven", "_law_woven", defArgs s__law_woven, defBody s__law_woven, defScope s__law_woven, [], []⟩
def d__law_some : He.DefD := ⟨("_law_some", none), "_law_some", "_law_some", defArgs s__law_some, defBody s__law_some, defScope s__law_some, [], []⟩
def d__law_replaced : He.DefD := ⟨("_law_replaced", none), "_law_replaced", "_law_replaced", defArgs s__law_replaced, defBody s__law_replaced, defScope s__law_replaced, [], []⟩
def d_law : He.DefD := ⟨("law", none), "law", "law", defArgs s_law, defBody s_law, defScope s_law, [], []⟩
def fn : List He.DefD := [d_is_integer, d_is_from_to, d_is_clock, d_is_word, d_rank_of, d_tidied, d_added, d_multiplied, d_Bag__init__, d_Bag__eq__, d_are_words, d_is_short_word, d_pairs_of, d_bag_of, d_table_of, d_is_bag, d_check_clocks, d_together, d_behind, d_mirrored, d_replaced, d_are_replacements, d_length, d__law_hand, d__law_draw, d__law_put, d__law_plus, d__law_product, d__law_order, d__law_words, d__law_plain, d__law_is, d__law_clock, d__law_word, d__law_lot, d__law_small, d__law_woven, d__law_some, d__law_replaced, d_law]
def fa : List He.Fa := [.glo "is_integer", .glo "is_from_to", .glo "is_clock", .glo "is_word", .glo "rank_of", .glo "tidied", .glo "added", .glo "multiplied", .glo "are_words", .glo "is_short_word", .glo "pairs_of", .glo "bag_of", .glo "table_of", .glo "is_bag", .glo "check_clocks", .glo "together", .glo "behind", .glo "mirrored", .glo "replaced", .glo "are_replacements", .glo "length", .glo "_law_hand", .glo "_law_draw", .glo "_law_put", .glo "_law_plus", .glo "_law_product", .glo "_law_order", .glo "_law_words", .glo "_law_plain", .glo "_law_is", .glo "_law_clock", .glo "_law_word", .glo "_law_lot", .glo "_law_small", .glo "_law_woven", .glo "_law_some", .glo "_law_replaced", .glo "law", .glo "BagError", .exc "BagError", .glo "BadBag", .glo "UnlikeClocks", .exc "UnlikeClocks", .glo "NoBags", .exc "NoBags", .glo "Bag", .cls "Bag", .mkr "Bag", .meth "Bag" "__eq__", .noat "Bag" "clock", .noat "Bag" "words", .glo "CLOCKS", .str "LETTERS" "xyz", .int "MOST_WORDS" 300, .int "MOST_LETTERS" 12, .free "abs", .free "all", .free "any", .free "bool", .free "dict", .free "int", .free "isinstance", .free "len", .free "max", .free "range", .free "sorted", .free "str", .free "tuple"]
def exl (K : PySem.W.Frag) : List Bool := [He.tupB K "CLOCKS" [.int 2, .int 3, .int 5, .int 7], decide (PySem.W.findIn K (.ref (He.ga K "Bag")) "__class__" = some (some (.builtin "object.__class__"))), decide (PySem.W.specialIn K (.builtin "object.__class__") "__get__" = some (some (.builtin "getset_descriptor.__get__"))), decide (PySem.W.takesIn K (.builtin "object.__class__") = some true), decide (PySem.W.mroIn K (He.ga K "Bag") (.type "object") = some true), decide (PySem.W.findIn K (.ref (He.ga K "Bag")) "__ne__" = some (some (.builtin "object.__ne__"))), decide (PySem.W.kitOne K (.ref (He.ga K "Bag")) (.ref (He.ga K "Bag")) = some true), PySem.W.notFirst K (He.ga K "Bag") (.type "NoneType"), decide (PySem.W.kitOne K (.type "NoneType") (.ref (He.ga K "Bag")) = some false), PySem.W.notFirst K (He.ga K "Bag") (.type "int"), decide (PySem.W.kitOne K (.type "int") (.ref (He.ga K "Bag")) = some false), PySem.W.notFirst K (He.ga K "Bag") (.type "bool"), decide (PySem.W.kitOne K (.type "bool") (.ref (He.ga K "Bag")) = some false), PySem.W.notFirst K (He.ga K "Bag") (.type "str"), decide (PySem.W.kitOne K (.type "str") (.ref (He.ga K "Bag")) = some false), PySem.W.notFirst K (He.ga K "Bag") (.type "dict"), decide (PySem.W.kitOne K (.type "dict") (.ref (He.ga K "Bag")) = some false), PySem.W.notFirst K (He.ga K "Bag") (.type "list"), decide (PySem.W.kitOne K (.type "list") (.ref (He.ga K "Bag")) = some false), PySem.W.notFirst K (He.ga K "Bag") (.type "tuple"), decide (PySem.W.kitOne K (.type "tuple") (.ref (He.ga K "Bag")) = some false), decide (PySem.W.exmOne K (.ref (He.ga K "BagError")) (.ref (He.ga K "BagError")) = some true), decide (PySem.W.exmOne K (.ref (He.ga K "UnlikeClocks")) (.ref (He.ga K "UnlikeClocks")) = some true), decide (PySem.W.exmOne K (.ref (He.ga K "NoBags")) (.ref (He.ga K "NoBags")) = some true)]
def ex (K : PySem.W.Frag) : Bool := (exl K).all id
/-- what the top has left -/
structure Top (K : PySem.W.Frag) (mg : Str → Option Value) : Prop where
  h : ∃ h : Heap, K.In h ∧ h.Ns mainGlobals mg
  c : He.SaysD fa fn K
  e : ex K = true
section
variable {K : PySem.W.Frag} {mg : Str → Option Value}
theorem Top.x (T : Top K mg) (i : Nat) {b : Bool} (h : (exl K)[i]? = some b := by rfl) : b = true := by
  have := List.all_eq_true.mp T.e b (List.mem_of_getElem? h)
  exact this
theorem g_is_integer (T : Top K mg) : mg "is_integer" = some (.ref (He.ga K "is_integer")) := by
  obtain ⟨h, X, G⟩ := T.h
  exact He.glo_ok X G (T.c.fact 0 (f := .glo "is_integer") rfl)
theorem g_is_from_to (T : Top K mg) : mg "is_from_to" = some (.ref (He.ga K "is_from_to")) := by
  obtain ⟨h, X, G⟩ := T.h
  exact He.glo_ok X G (T.c.fact 1 (f := .glo "is_from_to") rfl)
theorem g_is_clock (T : Top K mg) : mg "is_clock" = some (.ref (He.ga K "is_clock")) := by
  obtain ⟨h, X, G⟩ := T.h
  exact He.glo_ok X G (T.c.fact 2 (f := .glo "is_clock") rfl)
theorem g_is_word (T : Top K mg) : mg "is_word" = some (.ref (He.ga K "is_word")) := by
  obtain ⟨h, X, G⟩ := T.h
  exact He.glo_ok X G (T.c.fact 3 (f := .glo "is_word") rfl)
theorem g_rank_of (T : Top K mg) : mg "rank_of" = some (.ref (He.ga K "rank_of")) := by
  obtain ⟨h, X, G⟩ := T.h
  exact He.glo_ok X G (T.c.fact 4 (f := .glo "rank_of") rfl)
theorem g_tidied (T : Top K mg) : mg "tidied" = some (.ref (He.ga K "tidied")) := by
  obtain ⟨h, X, G⟩ := T.h
  exact He.glo_ok X G (T.c.fact 5 (f := .glo "tidied") rfl)
theorem g_added (T : Top K mg) : mg "added" = some (.ref (He.ga K "added")) := by
  obtain ⟨h, X, G⟩ := T.h
  exact He.glo_ok X G (T.c.fact 6 (f := .glo "added") rfl)
theorem g_multiplied (T : Top K mg) : mg "multiplied" = some (.ref (He.ga K "multiplied")) := by
  obtain ⟨h, X, G⟩ := T.h
  exact He.glo_ok X G (T.c.fact 7 (f := .glo "multiplied") rfl)
theorem g_are_words (T : Top K mg) : mg "are_words" = some (.ref (He.ga K "are_words")) := by
  obtain ⟨h, X, G⟩ := T.h
  exact He.glo_ok X G (T.c.fact 8 (f := .glo "are_words") rfl)
theorem g_is_short_word (T : Top K mg) : mg "is_short_word" = some (.ref (He.ga K "is_short_word")) := by
  obtain ⟨h, X, G⟩ := T.h
  exact He.glo_ok X G (T.c.fact 9 (f := .glo "is_short_word") rfl)
theorem g_pairs_of (T : Top K mg) : mg "pairs_of" = some (.ref (He.ga K "pairs_of")) := by
  obtain ⟨h, X, G⟩ := T.h
  exact He.glo_ok X G (T.c.fact 10 (f := .glo "pairs_of") rfl)
theorem g_bag_of (T : Top K mg) : mg "bag_of" = some (.ref (He.ga K "bag_of")) := by
  obtain ⟨h, X, G⟩ := T.h
  exact He.glo_ok X G (T.c.fact 11 (f := .glo "bag_of") rfl)
theorem g_table_of (T : Top K mg) : mg "table_of" = some (.ref (He.ga K "table_of")) := by
  obtain ⟨h, X, G⟩ := T.h
  exact He.glo_ok X G (T.c.fact 12 (f := .glo "table_of") rfl)
theorem g_is_bag (T : Top K mg) : mg "is_bag" = some (.ref (He.ga K "is_bag")) := by
  obtain ⟨h, X, G⟩ := T.h
  exact He.glo_ok X G (T.c.fact 13 (f := .glo "is_bag") rfl)
theorem g_check_clocks (T : Top K mg) : mg "check_clocks" = some (.ref (He.ga K "check_clocks")) := by
  obtain ⟨h, X, G⟩ := T.h
  exact He.glo_ok X G (T.c.fact 14 (f := .glo "check_clocks") rfl)
theorem g_together (T : Top K mg) : mg "together" = some (.ref (He.ga K "together")) := by
  obtain ⟨h, X, G⟩ := T.h
  exact He.glo_ok X G (T.c.fact 15 (f := .glo "together") rfl)
theorem g_behind (T : Top K mg) : mg "behind" = some (.ref (He.ga K "behind")) := by
  obtain ⟨h, X, G⟩ := T.h
  exact He.glo_ok X G (T.c.fact 16 (f := .glo "behind") rfl)
theorem g_mirrored (T : Top K mg) : mg "mirrored" = some (.ref (He.ga K "mirrored")) := by
  obtain ⟨h, X, G⟩ := T.h
  exact He.glo_ok X G (T.c.fact 17 (f := .glo "mirrored") rfl)
theorem g_replaced (T : Top K mg) : mg "replaced" = some (.ref (He.ga K "replaced")) := by
  obtain ⟨h, X, G⟩ := T.h
  exact He.glo_ok X G (T.c.fact 18 (f := .glo "replaced") rfl)
theorem g_are_replacements (T : Top K mg) : mg "are_replacements" = some (.ref (He.ga K "are_replacements")) := by
  obtain ⟨h, X, G⟩ := T.h
  exact He.glo_ok X G (T.c.fact 19 (f := .glo "are_replacements") rfl)
theorem g_length (T : Top K mg) : mg "length" = some (.ref (He.ga K "length")) := by
  obtain ⟨h, X, G⟩ := T.h
  exact He.glo_ok X G (T.c.fact 20 (f := .glo "length") rfl)
theorem g__law_hand (T : Top K mg) : mg "_law_hand" = some (.ref (He.ga K "_law_hand")) := by
  obtain ⟨h, X, G⟩ := T.h
  exact He.glo_ok X G (T.c.fact 21 (f := .glo "_law_hand") rfl)
theorem g__law_draw (T : Top K mg) : mg "_law_draw" = some (.ref (He.ga K "_law_draw")) := by
  obtain ⟨h, X, G⟩ := T.h
  exact He.glo_ok X G (T.c.fact 22 (f := .glo "_law_draw") rfl)
theorem g__law_put (T : Top K mg) : mg "_law_put" = some (.ref (He.ga K "_law_put")) := by
  obtain ⟨h, X, G⟩ := T.h
  exact He.glo_ok X G (T.c.fact 23 (f := .glo "_law_put") rfl)
theorem g__law_plus (T : Top K mg) : mg "_law_plus" = some (.ref (He.ga K "_law_plus")) := by
  obtain ⟨h, X, G⟩ := T.h
  exact He.glo_ok X G (T.c.fact 24 (f := .glo "_law_plus") rfl)
theorem g__law_product (T : Top K mg) : mg "_law_product" = some (.ref (He.ga K "_law_product")) := by
  obtain ⟨h, X, G⟩ := T.h
  exact He.glo_ok X G (T.c.fact 25 (f := .glo "_law_product") rfl)
theorem g__law_order (T : Top K mg) : mg "_law_order" = some (.ref (He.ga K "_law_order")) := by
  obtain ⟨h, X, G⟩ := T.h
  exact He.glo_ok X G (T.c.fact 26 (f := .glo "_law_order") rfl)
theorem g__law_words (T : Top K mg) : mg "_law_words" = some (.ref (He.ga K "_law_words")) := by
  obtain ⟨h, X, G⟩ := T.h
  exact He.glo_ok X G (T.c.fact 27 (f := .glo "_law_words") rfl)
theorem g__law_plain (T : Top K mg) : mg "_law_plain" = some (.ref (He.ga K "_law_plain")) := by
  obtain ⟨h, X, G⟩ := T.h
  exact He.glo_ok X G (T.c.fact 28 (f := .glo "_law_plain") rfl)
theorem g__law_is (T : Top K mg) : mg "_law_is" = some (.ref (He.ga K "_law_is")) := by
  obtain ⟨h, X, G⟩ := T.h
  exact He.glo_ok X G (T.c.fact 29 (f := .glo "_law_is") rfl)
theorem g__law_clock (T : Top K mg) : mg "_law_clock" = some (.ref (He.ga K "_law_clock")) := by
  obtain ⟨h, X, G⟩ := T.h
  exact He.glo_ok X G (T.c.fact 30 (f := .glo "_law_clock") rfl)
theorem g__law_word (T : Top K mg) : mg "_law_word" = some (.ref (He.ga K "_law_word")) := by
  obtain ⟨h, X, G⟩ := T.h
  exact He.glo_ok X G (T.c.fact 31 (f := .glo "_law_word") rfl)
theorem g__law_lot (T : Top K mg) : mg "_law_lot" = some (.ref (He.ga K "_law_lot")) := by
  obtain ⟨h, X, G⟩ := T.h
  exact He.glo_ok X G (T.c.fact 32 (f := .glo "_law_lot") rfl)
theorem g__law_small (T : Top K mg) : mg "_law_small" = some (.ref (He.ga K "_law_small")) := by
  obtain ⟨h, X, G⟩ := T.h
  exact He.glo_ok X G (T.c.fact 33 (f := .glo "_law_small") rfl)
theorem g__law_woven (T : Top K mg) : mg "_law_woven" = some (.ref (He.ga K "_law_woven")) := by
  obtain ⟨h, X, G⟩ := T.h
  exact He.glo_ok X G (T.c.fact 34 (f := .glo "_law_woven") rfl)
theorem g__law_some (T : Top K mg) : mg "_law_some" = some (.ref (He.ga K "_law_some")) := by
  obtain ⟨h, X, G⟩ := T.h
  exact He.glo_ok X G (T.c.fact 35 (f := .glo "_law_some") rfl)
theorem g__law_replaced (T : Top K mg) : mg "_law_replaced" = some (.ref (He.ga K "_law_replaced")) := by
  obtain ⟨h, X, G⟩ := T.h
  exact He.glo_ok X G (T.c.fact 36 (f := .glo "_law_replaced") rfl)
theorem g_law (T : Top K mg) : mg "law" = some (.ref (He.ga K "law")) := by
  obtain ⟨h, X, G⟩ := T.h
  exact He.glo_ok X G (T.c.fact 37 (f := .glo "law") rfl)
theorem g_BagError (T : Top K mg) : mg "BagError" = some (.ref (He.ga K "BagError")) := by
  obtain ⟨h, X, G⟩ := T.h
  exact He.glo_ok X G (T.c.fact 38 (f := .glo "BagError") rfl)
theorem e_BagError (T : Top K mg) : PySem.W.excIn K (He.ga K "BagError") He.veBase "ValueError.__new__" = true ∧ PySem.W.keepIn K (.ref (He.ga K "BagError")) = true ∧ PySem.W.subIn K (.ref (He.ga K "BagError")) (.type "BaseException") = some true ∧ PySem.W.typeIn K (.ref (He.ga K "BagError")) = some (.type "type") := He.exc_ok (T.c.fact 39 (f := .exc "BagError") rfl)
theorem g_BadBag (T : Top K mg) : mg "BadBag" = some (.ref (He.ga K "BadBag")) := by
  obtain ⟨h, X, G⟩ := T.h
  exact He.glo_ok X G (T.c.fact 40 (f := .glo "BadBag") rfl)
theorem g_UnlikeClocks (T : Top K mg) : mg "UnlikeClocks" = some (.ref (He.ga K "UnlikeClocks")) := by
  obtain ⟨h, X, G⟩ := T.h
  exact He.glo_ok X G (T.c.fact 41 (f := .glo "UnlikeClocks") rfl)
theorem e_UnlikeClocks (T : Top K mg) : PySem.W.excIn K (He.ga K "UnlikeClocks") He.veBase "ValueError.__new__" = true ∧ PySem.W.keepIn K (.ref (He.ga K "UnlikeClocks")) = true ∧ PySem.W.subIn K (.ref (He.ga K "UnlikeClocks")) (.type "BaseException") = some true ∧ PySem.W.typeIn K (.ref (He.ga K "UnlikeClocks")) = some (.type "type") := He.exc_ok (T.c.fact 42 (f := .exc "UnlikeClocks") rfl)
theorem g_NoBags (T : Top K mg) : mg "NoBags" = some (.ref (He.ga K "NoBags")) := by
  obtain ⟨h, X, G⟩ := T.h
  exact He.glo_ok X G (T.c.fact 43 (f := .glo "NoBags") rfl)
theorem e_NoBags (T : Top K mg) : PySem.W.excIn K (He.ga K "NoBags") He.veBase "ValueError.__new__" = true ∧ PySem.W.keepIn K (.ref (He.ga K "NoBags")) = true ∧ PySem.W.subIn K (.ref (He.ga K "NoBags")) (.type "BaseException") = some true ∧ PySem.W.typeIn K (.ref (He.ga K "NoBags")) = some (.type "type") := He.exc_ok (T.c.fact 44 (f := .exc "NoBags") rfl)
theorem g_Bag (T : Top K mg) : mg "Bag" = some (.ref (He.ga K "Bag")) := by
  obtain ⟨h, X, G⟩ := T.h
  exact He.glo_ok X G (T.c.fact 45 (f := .glo "Bag") rfl)
theorem cls_Bag (T : Top K mg) : Cls K (He.ga K "Bag") := He.cls_ok (T.c.fact 46 (f := .cls "Bag") rfl)
theorem mk_Bag (T : Top K mg) : Mk K (He.ga K "Bag") (He.ma K (He.ga K "Bag") "__init__") := He.mkr_ok (T.c.fact 47 (f := .mkr "Bag") rfl)
theorem m_Bag___eq__ (T : Top K mg) : Meth K (He.ga K "Bag") "__eq__" (He.ma K (He.ga K "Bag") "__eq__") := He.meth_ok (T.c.fact 48 (f := .meth "Bag" "__eq__") rfl)
theorem na_Bag_clock (T : Top K mg) : NoAttr K (He.ga K "Bag") "clock" := He.noat_ok (T.c.fact 49 (f := .noat "Bag" "clock") rfl)
theorem na_Bag_words (T : Top K mg) : NoAttr K (He.ga K "Bag") "words" := He.noat_ok (T.c.fact 50 (f := .noat "Bag" "words") rfl)
theorem g_CLOCKS (T : Top K mg) : mg "CLOCKS" = some (.ref (He.ga K "CLOCKS")) := by
  obtain ⟨h, X, G⟩ := T.h
  exact He.glo_ok X G (T.c.fact 51 (f := .glo "CLOCKS") rfl)
theorem t_LETTERS (T : Top K mg) : ∃ t, mg "LETTERS" = some (.str "xyz" t) := by
  obtain ⟨h, X, G⟩ := T.h
  exact He.str_ok X G (T.c.fact 52 (f := .str "LETTERS" "xyz") rfl)
theorem i_MOST_WORDS (T : Top K mg) : ∃ t, mg "MOST_WORDS" = some (.int 300 t) := by
  obtain ⟨h, X, G⟩ := T.h
  exact He.int_ok X G (T.c.fact 53 (f := .int "MOST_WORDS" 300) rfl)
theorem i_MOST_LETTERS (T : Top K mg) : ∃ t, mg "MOST_LETTERS" = some (.int 12 t) := by
  obtain ⟨h, X, G⟩ := T.h
  exact He.int_ok X G (T.c.fact 54 (f := .int "MOST_LETTERS" 12) rfl)
theorem f_abs (T : Top K mg) : mg "abs" = none := by
  obtain ⟨h, X, G⟩ := T.h
  exact He.free_ok X G (T.c.fact 55 (f := .free "abs") rfl)
theorem f_all (T : Top K mg) : mg "all" = none := by
  obtain ⟨h, X, G⟩ := T.h
  exact He.free_ok X G (T.c.fact 56 (f := .free "all") rfl)
theorem f_any (T : Top K mg) : mg "any" = none := by
  obtain ⟨h, X, G⟩ := T.h
  exact He.free_ok X G (T.c.fact 57 (f := .free "any") rfl)
theorem f_bool (T : Top K mg) : mg "bool" = none := by
  obtain ⟨h, X, G⟩ := T.h
  exact He.free_ok X G (T.c.fact 58 (f := .free "bool") rfl)
theorem f_dict (T : Top K mg) : mg "dict" = none := by
  obtain ⟨h, X, G⟩ := T.h
  exact He.free_ok X G (T.c.fact 59 (f := .free "dict") rfl)
theorem f_int (T : Top K mg) : mg "int" = none := by
  obtain ⟨h, X, G⟩ := T.h
  exact He.free_ok X G (T.c.fact 60 (f := .free "int") rfl)
theorem f_isinstance (T : Top K mg) : mg "isinstance" = none := by
  obtain ⟨h, X, G⟩ := T.h
  exact He.free_ok X G (T.c.fact 61 (f := .free "isinstance") rfl)
theorem f_len (T : Top K mg) : mg "len" = none := by
  obtain ⟨h, X, G⟩ := T.h
  exact He.free_ok X G (T.c.fact 62 (f := .free "len") rfl)
theorem f_max (T : Top K mg) : mg "max" = none := by
  obtain ⟨h, X, G⟩ := T.h
  exact He.free_ok X G (T.c.fact 63 (f := .free "max") rfl)
theorem f_range (T : Top K mg) : mg "range" = none := by
  obtain ⟨h, X, G⟩ := T.h
  exact He.free_ok X G (T.c.fact 64 (f := .free "range") rfl)
theorem f_sorted (T : Top K mg) : mg "sorted" = none := by
  obtain ⟨h, X, G⟩ := T.h
  exact He.free_ok X G (T.c.fact 65 (f := .free "sorted") rfl)
theorem f_str (T : Top K mg) : mg "str" = none := by
  obtain ⟨h, X, G⟩ := T.h
  exact He.free_ok X G (T.c.fact 66 (f := .free "str") rfl)
theorem f_tuple (T : Top K mg) : mg "tuple" = none := by
  obtain ⟨h, X, G⟩ := T.h
  exact He.free_ok X G (T.c.fact 67 (f := .free "tuple") rfl)
theorem fn_is_integer (T : Top K mg) : ∃ fd, FnP K "is_integer" "is_integer" s_is_integer (He.fAd K ("is_integer", none)) fd := T.c.def_ 0 (d := d_is_integer) rfl
theorem fn_is_from_to (T : Top K mg) : ∃ fd, FnP K "is_from_to" "is_from_to" s_is_from_to (He.fAd K ("is_from_to", none)) fd := T.c.def_ 1 (d := d_is_from_to) rfl
theorem fn_is_clock (T : Top K mg) : ∃ fd, FnP K "is_clock" "is_clock" s_is_clock (He.fAd K ("is_clock", none)) fd := T.c.def_ 2 (d := d_is_clock) rfl
theorem fn_is_word (T : Top K mg) : ∃ fd, FnP K "is_word" "is_word" s_is_word (He.fAd K ("is_word", none)) fd := T.c.def_ 3 (d := d_is_word) rfl
theorem fn_rank_of (T : Top K mg) : ∃ fd, FnP K "rank_of" "rank_of" s_rank_of (He.fAd K ("rank_of", none)) fd := T.c.def_ 4 (d := d_rank_of) rfl
theorem fn_tidied (T : Top K mg) : ∃ fd, FnP K "tidied" "tidied" s_tidied (He.fAd K ("tidied", none)) fd := T.c.def_ 5 (d := d_tidied) rfl
theorem fn_added (T : Top K mg) : ∃ fd, FnP K "added" "added" s_added (He.fAd K ("added", none)) fd := T.c.def_ 6 (d := d_added) rfl
theorem fn_multiplied (T : Top K mg) : ∃ fd, FnP K "multiplied" "multiplied" s_multiplied (He.fAd K ("multiplied", none)) fd := T.c.def_ 7 (d := d_multiplied) rfl
theorem fn_Bag__init__ (T : Top K mg) : ∃ fd, FnP K "__init__" "Bag.__init__" s_Bag__init__ (He.fAd K ("Bag", some "__init__")) fd := T.c.def_ 8 (d := d_Bag__init__) rfl
theorem fn_Bag__eq__ (T : Top K mg) : ∃ fd, FnP K "__eq__" "Bag.__eq__" s_Bag__eq__ (He.fAd K ("Bag", some "__eq__")) fd := T.c.def_ 9 (d := d_Bag__eq__) rfl
theorem fn_are_words (T : Top K mg) : ∃ fd, FnP K "are_words" "are_words" s_are_words (He.fAd K ("are_words", none)) fd := T.c.def_ 10 (d := d_are_words) rfl
theorem fn_is_short_word (T : Top K mg) : ∃ fd, FnP K "is_short_word" "is_short_word" s_is_short_word (He.fAd K ("is_short_word", none)) fd := T.c.def_ 11 (d := d_is_short_word) rfl
theorem fn_pairs_of (T : Top K mg) : ∃ fd, FnP K "pairs_of" "pairs_of" s_pairs_of (He.fAd K ("pairs_of", none)) fd := T.c.def_ 12 (d := d_pairs_of) rfl
theorem fn_bag_of (T : Top K mg) : ∃ fd, FnP K "bag_of" "bag_of" s_bag_of (He.fAd K ("bag_of", none)) fd := T.c.def_ 13 (d := d_bag_of) rfl
theorem fn_table_of (T : Top K mg) : ∃ fd, FnP K "table_of" "table_of" s_table_of (He.fAd K ("table_of", none)) fd := T.c.def_ 14 (d := d_table_of) rfl
theorem fn_is_bag (T : Top K mg) : ∃ fd, FnP K "is_bag" "is_bag" s_is_bag (He.fAd K ("is_bag", none)) fd := T.c.def_ 15 (d := d_is_bag) rfl
theorem fn_check_clocks (T : Top K mg) : ∃ fd, FnP K "check_clocks" "check_clocks" s_check_clocks (He.fAd K ("check_clocks", none)) fd := T.c.def_ 16 (d := d_check_clocks) rfl
theorem fn_together (T : Top K mg) : ∃ fd, FnP K "together" "together" s_together (He.fAd K ("together", none)) fd := T.c.def_ 17 (d := d_together) rfl
theorem fn_behind (T : Top K mg) : ∃ fd, FnP K "behind" "behind" s_behind (He.fAd K ("behind", none)) fd := T.c.def_ 18 (d := d_behind) rfl
theorem fn_mirrored (T : Top K mg) : ∃ fd, FnP K "mirrored" "mirrored" s_mirrored (He.fAd K ("mirrored", none)) fd := T.c.def_ 19 (d := d_mirrored) rfl
theorem fn_replaced (T : Top K mg) : ∃ fd, FnP K "replaced" "replaced" s_replaced (He.fAd K ("replaced", none)) fd := T.c.def_ 20 (d := d_replaced) rfl
theorem fn_are_replacements (T : Top K mg) : ∃ fd, FnP K "are_replacements" "are_replacements" s_are_replacements (He.fAd K ("are_replacements", none)) fd := T.c.def_ 21 (d := d_are_replacements) rfl
theorem fn_length (T : Top K mg) : ∃ fd, FnP K "length" "length" s_length (He.fAd K ("length", none)) fd := T.c.def_ 22 (d := d_length) rfl
theorem fn__law_hand (T : Top K mg) : ∃ fd, FnP K "_law_hand" "_law_hand" s__law_hand (He.fAd K ("_law_hand", none)) fd := T.c.def_ 23 (d := d__law_hand) rfl
theorem fn__law_draw (T : Top K mg) : ∃ fd, FnP K "_law_draw" "_law_draw" s__law_draw (He.fAd K ("_law_draw", none)) fd := T.c.def_ 24 (d := d__law_draw) rfl
theorem fn__law_put (T : Top K mg) : ∃ fd, FnP K "_law_put" "_law_put" s__law_put (He.fAd K ("_law_put", none)) fd := T.c.def_ 25 (d := d__law_put) rfl
theorem fn__law_plus (T : Top K mg) : ∃ fd, FnP K "_law_plus" "_law_plus" s__law_plus (He.fAd K ("_law_plus", none)) fd := T.c.def_ 26 (d := d__law_plus) rfl
theorem fn__law_product (T : Top K mg) : ∃ fd, FnP K "_law_product" "_law_product" s__law_product (He.fAd K ("_law_product", none)) fd := T.c.def_ 27 (d := d__law_product) rfl
theorem fn__law_order (T : Top K mg) : ∃ fd, FnP K "_law_order" "_law_order" s__law_order (He.fAd K ("_law_order", none)) fd := T.c.def_ 28 (d := d__law_order) rfl
theorem fn__law_words (T : Top K mg) : ∃ fd, FnP K "_law_words" "_law_words" s__law_words (He.fAd K ("_law_words", none)) fd := T.c.def_ 29 (d := d__law_words) rfl
theorem fn__law_plain (T : Top K mg) : ∃ fd, FnP K "_law_plain" "_law_plain" s__law_plain (He.fAd K ("_law_plain", none)) fd := T.c.def_ 30 (d := d__law_plain) rfl
theorem fn__law_is (T : Top K mg) : ∃ fd, FnP K "_law_is" "_law_is" s__law_is (He.fAd K ("_law_is", none)) fd := T.c.def_ 31 (d := d__law_is) rfl
theorem fn__law_clock (T : Top K mg) : ∃ fd, FnP K "_law_clock" "_law_clock" s__law_clock (He.fAd K ("_law_clock", none)) fd := T.c.def_ 32 (d := d__law_clock) rfl
theorem fn__law_word (T : Top K mg) : ∃ fd, FnP K "_law_word" "_law_word" s__law_word (He.fAd K ("_law_word", none)) fd := T.c.def_ 33 (d := d__law_word) rfl
theorem fn__law_lot (T : Top K mg) : ∃ fd, FnP K "_law_lot" "_law_lot" s__law_lot (He.fAd K ("_law_lot", none)) fd := T.c.def_ 34 (d := d__law_lot) rfl
theorem fn__law_small (T : Top K mg) : ∃ fd, FnP K "_law_small" "_law_small" s__law_small (He.fAd K ("_law_small", none)) fd := T.c.def_ 35 (d := d__law_small) rfl
theorem fn__law_woven (T : Top K mg) : ∃ fd, FnP K "_law_woven" "_law_woven" s__law_woven (He.fAd K ("_law_woven", none)) fd := T.c.def_ 36 (d := d__law_woven) rfl
theorem fn__law_some (T : Top K mg) : ∃ fd, FnP K "_law_some" "_law_some" s__law_some (He.fAd K ("_law_some", none)) fd := T.c.def_ 37 (d := d__law_some) rfl
theorem fn__law_replaced (T : Top K mg) : ∃ fd, FnP K "_law_replaced" "_law_replaced" s__law_replaced (He.fAd K ("_law_replaced", none)) fd := T.c.def_ 38 (d := d__law_replaced) rfl
theorem fn_law (T : Top K mg) : ∃ fd, FnP K "law" "law" s_law (He.fAd K ("law", none)) fd := T.c.def_ 39 (d := d_law) rfl
theorem x_CLOCKS (T : Top K mg) (H : Hp) : SqT K H (He.ga K "CLOCKS") [.int 2, .int 3, .int 5, .int 7] := He.tupB_ok (T.x 0) H
theorem x_class (T : Top K mg) : PySem.W.findIn K (.ref (He.ga K "Bag")) "__class__" = some (some (.builtin "object.__class__")) := of_decide_eq_true (T.x 1)
theorem x_get (T : Top K mg) : PySem.W.specialIn K (.builtin "object.__class__") "__get__" = some (some (.builtin "getset_descriptor.__get__")) := of_decide_eq_true (T.x 2)
theorem x_takes (T : Top K mg) : PySem.W.takesIn K (.builtin "object.__class__") = some true := of_decide_eq_true (T.x 3)
theorem x_mro (T : Top K mg) : PySem.W.mroIn K (He.ga K "Bag") (.type "object") = some true := of_decide_eq_true (T.x 4)
theorem x_ne (T : Top K mg) : PySem.W.findIn K (.ref (He.ga K "Bag")) "__ne__" = some (some (.builtin "object.__ne__")) := of_decide_eq_true (T.x 5)
theorem x_is (T : Top K mg) : PySem.W.kitOne K (.ref (He.ga K "Bag")) (.ref (He.ga K "Bag")) = some true := of_decide_eq_true (T.x 6)
theorem x_nf_NoneType (T : Top K mg) : PySem.W.notFirst K (He.ga K "Bag") (.type "NoneType") = true := T.x 7
theorem x_no_NoneType (T : Top K mg) : PySem.W.kitOne K (.type "NoneType") (.ref (He.ga K "Bag")) = some false := of_decide_eq_true (T.x 8)
theorem x_nf_int (T : Top K mg) : PySem.W.notFirst K (He.ga K "Bag") (.type "int") = true := T.x 9
theorem x_no_int (T : Top K mg) : PySem.W.kitOne K (.type "int") (.ref (He.ga K "Bag")) = some false := of_decide_eq_true (T.x 10)
theorem x_nf_bool (T : Top K mg) : PySem.W.notFirst K (He.ga K "Bag") (.type "bool") = true := T.x 11
theorem x_no_bool (T : Top K mg) : PySem.W.kitOne K (.type "bool") (.ref (He.ga K "Bag")) = some false := of_decide_eq_true (T.x 12)
theorem x_nf_str (T : Top K mg) : PySem.W.notFirst K (He.ga K "Bag") (.type "str") = true := T.x 13
theorem x_no_str (T : Top K mg) : PySem.W.kitOne K (.type "str") (.ref (He.ga K "Bag")) = some false := of_decide_eq_true (T.x 14)
theorem x_nf_dict (T : Top K mg) : PySem.W.notFirst K (He.ga K "Bag") (.type "dict") = true := T.x 15
theorem x_no_dict (T : Top K mg) : PySem.W.kitOne K (.type "dict") (.ref (He.ga K "Bag")) = some false := of_decide_eq_true (T.x 16)
theorem x_nf_list (T : Top K mg) : PySem.W.notFirst K (He.ga K "Bag") (.type "list") = true := T.x 17
theorem x_no_list (T : Top K mg) : PySem.W.kitOne K (.type "list") (.ref (He.ga K "Bag")) = some false := of_decide_eq_true (T.x 18)
theorem x_nf_tuple (T : Top K mg) : PySem.W.notFirst K (He.ga K "Bag") (.type "tuple") = true := T.x 19
theorem x_no_tuple (T : Top K mg) : PySem.W.kitOne K (.type "tuple") (.ref (He.ga K "Bag")) = some false := of_decide_eq_true (T.x 20)
theorem xm_BagError (T : Top K mg) : PySem.W.exmOne K (.ref (He.ga K "BagError")) (.ref (He.ga K "BagError")) = some true := of_decide_eq_true (T.x 21)
theorem xm_UnlikeClocks (T : Top K mg) : PySem.W.exmOne K (.ref (He.ga K "UnlikeClocks")) (.ref (He.ga K "UnlikeClocks")) = some true := of_decide_eq_true (T.x 22)
theorem xm_NoBags (T : Top K mg) : PySem.W.exmOne K (.ref (He.ga K "NoBags")) (.ref (He.ga K "NoBags")) = some true := of_decide_eq_true (T.x 23)
end
end Fp

set_option Elab.async false
set_option linter.all false
set_option maxRecDepth 100000
set_option maxHeartbeats 0
namespace Fp
open PySem PySem.Spec PyProof.Rows L2
abbrev R : PySem.W.OpenRow := PySem.W.OpenLaw.row PySem.Challenge.rw_frontparts_k04_whole_mirrored_and_replac
abbrev hk : PySem.W.Hook := He.hookX 5 fa fn [] [] ex
def ob (s : PySem.W.SharedT) : He.AlX := He.obsX 5 fa fn [] [] ex (HandSHeadRun.getT s)
theorem ob_eq (s : PySem.W.SharedT) : ob s = hk.obs s.abs := He.obsX_eq (HandSHeadRun.getT_eq s)
def loose : List PySem.Str := "__name__" :: "BagError" :: "BadBag" :: "UnlikeClocks" :: "NoBags" :: "CLOCKS" :: "LETTERS" :: "is_integer" :: "is_from_to" :: "is_clock" :: "is_word" :: "rank_of" :: "tidied" :: "added" :: "multiplied" :: "MOST_WORDS" :: "MOST_LETTERS" :: "Bag" :: "are_words" :: "is_short_word" :: "pairs_of" :: "bag_of" :: "table_of" :: "is_bag" :: "check_clocks" :: "together" :: "behind" :: "mirrored" :: "replaced" :: "are_replacements" :: "length" :: "_law_hand" :: "_law_draw" :: "_law_put" :: "_law_plus" :: "_law_product" :: "_law_order" :: "_law_words" :: "_law_plain" :: "_law_is" :: "_law_clock" :: "_law_word" :: "_law_lot" :: "_law_small" :: "_law_woven" :: "_law_some" :: "_law_replaced" :: []
theorem run (w : World) : HandSHeadRun.RunEq R (PySem.W.view R.prog [51]) hk ob 20000 loose w := by
  intro os
  kernel_rfl
theorem top_of {w : World} {h h' : Heap} {K : PySem.W.Frag} {mg : Str → Option Value} (X : K.In h) (G : h.Ns mainGlobals mg) (c : He.SaysX fa fn [] [] ex w h' K) : Top K mg := ⟨⟨h, X, G⟩, c.t.d, c.more⟩
end Fp

set_option Elab.async false
set_option linter.all false
set_option maxRecDepth 100000
set_option maxHeartbeats 2000000
namespace Fp
open PySem PySem.Spec PyProof.Rows L2
/-! ### words -/
def xyz (w : Str) : Prop := ∀ c ∈ w.cps.toList, c = 120 ∨ c = 121 ∨ c = 122
theorem tw_self {g : Nat → Bool} : ∀ {l : List Nat}, (∀ c ∈ l, g c = true) → l.takeWhile g = l
  | [], _ => rfl
  | c :: r, h => by
    rw [List.takeWhile_cons, if_pos (h c List.mem_cons_self), tw_self fun d hd => h d (List.mem_cons_of_mem _ hd)]
theorem strip_xyz {w : Str} (h : xyz w) : PySem.Txt.stripChars w "xyz" = (Str.ofString "") := by
  have hg : ∀ c ∈ w.cps.toList, (("xyz" : Str).cps.contains c) = true := fun c hc => by
    rcases h c hc with e | e | e <;> subst e <;> decide +kernel
  have ht : w.cps.toList.takeWhile ("xyz" : Str).cps.contains = w.cps.toList := tw_self hg
  have hlo : stripLo ("xyz" : Str).cps.contains true w = w.cps.toList.length := by
    unfold stripLo
    rw [if_pos rfl, ht]
  have hsz : w.length = w.cps.toList.length := by simp [Str.length]
  unfold PySem.Txt.stripChars PySem.Txt.stripBy
  cases e : stripSame ("xyz" : Str).cps.contains true true w with
  | true =>
    rw [if_pos rfl]
    unfold stripSame at e
    rw [hlo] at e
    simp only [Bool.and_eq_true, beq_iff_eq] at e
    have e0 : w.cps.toList = [] := List.length_eq_zero_iff.mp e.1
    obtain ⟨a⟩ := w
    have : a = #[] := by simpa using e0
    subst this
    rfl
  | false =>
    rw [if_neg Bool.false_ne_true]
    unfold stripped
    rw [hlo]
    have hhi : stripHi ("xyz" : Str).cps.contains true w w.cps.toList.length = w.length := by
      unfold stripHi
      rw [if_pos rfl, List.drop_length]
      simp
    rw [hhi, hsz]
    unfold Builtin.Str.strSub
    simp
    rfl
section
variable {P : Program} {w : World} {K : PySem.W.Frag} {mg : Str → Option Value} {base : Heap}
/-! ### kinds -/
def spInt : Sp := fun vs H Q _ => ∃ i : Int, vs = [.int i] ∧ Q (.bl true) H
theorem sc_is_integer : FnScope ["thing"] ["thing"] (defScope s_is_integer) := ⟨rfl, rfl, rfl, by decide +kernel, rfl, by decide +kernel, by decide +kernel⟩
theorem ok_is_integer (T : Top K mg) : Ok P w K mg base 1 "is_integer" ["thing"] spInt := by
  obtain ⟨fd, F⟩ := fn_is_integer T
  refine ⟨⟨fd, ?_, F.bindsN fun _ _ _ _ _ _ us hl => match us, hl with | [_], _ => rfl⟩, g_is_integer T, F.kp⟩
  refine F.ok sc_is_integer (fun vs H Q E h => ?_) (fun cdv A outer s H vs Q E hr h => ?_)
  · obtain ⟨i, rfl, _⟩ := h
    rfl
  · obtain ⟨i, rfl, q⟩ := h
    refine ⟨_, PSs.nox (pss_one (ps_ret (pe_and (pe_callB call_isi (by rfl) (f_isinstance T) (by decide +kernel) (pa_cons (pv 0) (pa_cons (pe_bltn (v := .ty "int") (by rfl) (f_int T) boot_int rfl) pa_nil)))
      (pe_one (pe_not (pe_callB call_isi (by rfl) (f_isinstance T) (by decide +kernel) (pa_cons (pv 0) (pa_cons (pe_bltn (v := .ty "bool") (by rfl) (f_bool T) (by decide +kernel) rfl) pa_nil)))))))), ?_⟩
    refine ⟨_, rfl, .int i, _, _, _, true, rfl, .ty "int", .base (.int i), kit_ty (by decide +kernel), true, rfl, iteT ?_⟩
    exact ⟨_, rfl, .int i, _, _, _, false, rfl, .ty "bool", .base (.int i), kit_ty (by decide +kernel), false, rfl, q⟩
def spFromTo : Sp := fun vs H Q _ => ∃ i lo hi : Int, vs = [.int i, .int lo, .int hi] ∧ Q (.bl (decide (lo ≤ i) && decide (i ≤ hi))) H
theorem sc_is_from_to : FnScope ["thing", "low", "high"] ["thing", "low", "high"] (defScope s_is_from_to) := ⟨rfl, rfl, rfl, by decide +kernel, rfl, by decide +kernel, by decide +kernel⟩
theorem ok_is_from_to (T : Top K mg) : Ok P w K mg base 2 "is_from_to" ["thing", "low", "high"] spFromTo := by
  obtain ⟨fd, F⟩ := fn_is_from_to T
  refine ⟨⟨fd, ?_, F.bindsN fun _ _ _ _ _ _ us hl => match us, hl with | [_, _, _], _ => rfl⟩, g_is_from_to T, F.kp⟩
  refine F.ok sc_is_from_to (fun vs H Q E h => ?_) (fun cdv A outer s H vs Q E hr h => ?_)
  · obtain ⟨i, lo, hi, rfl, _⟩ := h
    rfl
  · obtain ⟨i, lo, hi, rfl, q⟩ := h
    refine ⟨_, PSs.nox (pss_one (ps_ret (pe_and (pc (ok_is_integer T) hr (pa_cons (pv 0) pa_nil)) (pe_one (pe_chain op_le op_le (pv 1) (pv 0) (pv 2)))))), ?_⟩
    refine ⟨_, rfl, i, rfl, true, rfl, iteT ?_⟩
    refine ⟨_, rfl, _, rfl, _, _, rfl, rfl, _, rfl, ?_⟩
    by_cases h1 : lo ≤ i
    · rw [decide_eq_true h1] at q ⊢
      exact iteT ⟨_, rfl, _, _, rfl, rfl, q⟩
    · rw [decide_eq_false h1] at q ⊢
      exact iteF q
def isCk (c : Int) : Prop := c = 2 ∨ c = 3 ∨ c = 5 ∨ c = 7
def spClock : Sp := fun vs H Q _ => ∃ c : Int, vs = [.int c] ∧ isCk c ∧ Q (.bl true) H
theorem sc_is_clock : FnScope ["thing"] ["thing"] (defScope s_is_clock) := ⟨rfl, rfl, rfl, by decide +kernel, rfl, by decide +kernel, by decide +kernel⟩
theorem ok_is_clock (T : Top K mg) : Ok P w K mg base 2 "is_clock" ["thing"] spClock := by
  obtain ⟨fd, F⟩ := fn_is_clock T
  refine ⟨⟨fd, ?_, F.bindsN fun _ _ _ _ _ _ us hl => match us, hl with | [_], _ => rfl⟩, g_is_clock T, F.kp⟩
  refine F.ok sc_is_clock (fun vs H Q E h => ?_) (fun cdv A outer s H vs Q E hr h => ?_)
  · obtain ⟨i, rfl, _⟩ := h
    rfl
  · obtain ⟨c, rfl, hc, q⟩ := h
    refine ⟨_, PSs.nox (pss_one (ps_ret (pe_and (pc (ok_is_integer T) hr (pa_cons (pv 0) pa_nil)) (pe_one (pe_cmpR op_in_seq (pv 0) (pe_glob (v := .ref (He.ga K "CLOCKS")) rfl (g_CLOCKS T) rfl) (by rfl)))))), ?_⟩
    refine ⟨_, rfl, c, rfl, true, rfl, iteT ?_⟩
    refine ⟨_, rfl, _, _, rfl, .inr (x_CLOCKS T _), rfl, rfl, ?_⟩
    have e : (if false = true then !inV (V.int c) [.int 2, .int 3, .int 5, .int 7] else inV (V.int c) [.int 2, .int 3, .int 5, .int 7]) = true := by
      rcases hc with rfl | rfl | rfl | rfl <;> decide
    rw [e]
    exact q
def spWord : Sp := fun vs H Q _ => ∃ x : Str, vs = [.str x] ∧ xyz x ∧ x.length ≤ 1000000 ∧ Q (.bl true) H
theorem sc_is_word : FnScope ["thing"] ["thing"] (defScope s_is_word) := ⟨rfl, rfl, rfl, by decide +kernel, rfl, by decide +kernel, by decide +kernel⟩
theorem ok_is_word (T : Top K mg) : Ok P w K mg base 1 "is_word" ["thing"] spWord := by
  obtain ⟨fd, F⟩ := fn_is_word T
  obtain ⟨tk, hL⟩ := t_LETTERS T
  refine ⟨⟨fd, ?_, F.bindsN fun _ _ _ _ _ _ us hl => match us, hl with | [_], _ => rfl⟩, g_is_word T, F.kp⟩
  refine F.ok sc_is_word (fun vs H Q E h => ?_) (fun cdv A outer s H vs Q E hr h => ?_)
  · obtain ⟨i, rfl, _⟩ := h
    rfl
  · obtain ⟨x, rfl, hx, hl, q⟩ := h
    have hs : sizeLine = 16777216 := sizeLine_eq
    refine ⟨_, PSs.nox (pss_one (ps_ret (pe_and (pe_callB call_isi (by rfl) (f_isinstance T) (by decide +kernel) (pa_cons (pv 0) (pa_cons (pe_bltn (v := .ty "str") (by rfl) (f_str T) (by decide +kernel) rfl) pa_nil)))
      (pe_one (pe_cmpR op_eq (pe_m1 PySem.F.slot_str_strip PySem.F.type_str_strip mt_stripChars (pv 0) (pe_glob (v := .str "xyz") rfl hL ⟨_, rfl⟩)) pe_str (nomark _)))))), ?_⟩
    refine ⟨_, rfl, .str x, _, _, _, true, rfl, .ty "str", .base (.str x), kit_ty (by decide +kernel), true, rfl, iteT ?_⟩
    refine ⟨_, rfl, ⟨x, rfl⟩, x, _, rfl, rfl, by omega, rfl, ?_⟩
    rw [strip_xyz hx]
    exact q
def spShort : Sp := fun vs H Q _ => ∃ x : Str, vs = [.str x] ∧ xyz x ∧ x.length ≤ 12 ∧ Q (.bl true) H
theorem sc_is_short_word : FnScope ["thing"] ["thing"] (defScope s_is_short_word) := ⟨rfl, rfl, rfl, by decide +kernel, rfl, by decide +kernel, by decide +kernel⟩
theorem ok_is_short_word (T : Top K mg) : Ok P w K mg base 2 "is_short_word" ["thing"] spShort := by
  obtain ⟨fd, F⟩ := fn_is_short_word T
  obtain ⟨tk, hL⟩ := i_MOST_LETTERS T
  refine ⟨⟨fd, ?_, F.bindsN fun _ _ _ _ _ _ us hl => match us, hl with | [_], _ => rfl⟩, g_is_short_word T, F.kp⟩
  refine F.ok sc_is_short_word (fun vs H Q E h => ?_) (fun cdv A outer s H vs Q E hr h => ?_)
  · obtain ⟨i, rfl, _⟩ := h
    rfl
  · obtain ⟨x, rfl, hx, hl, q⟩ := h
    have hs : sizeLine = 16777216 := sizeLine_eq
    refine ⟨_, PSs.nox (pss_one (ps_ret (pe_and (pc (ok_is_word T) hr (pa_cons (pv 0) pa_nil)) (pe_one (pe_cmpR op_le (pe_callB call_len_str (by rfl) (f_len T) PySem.boot_len (pa_cons (pv 0) pa_nil)) (pe_glob (v := .int 12) rfl hL ⟨_, rfl⟩) (nomark _)))))), ?_⟩
    refine ⟨_, rfl, x, rfl, hx, by omega, true, rfl, iteT ?_⟩
    refine ⟨_, rfl, x, rfl, by omega, _, _, rfl, rfl, ?_⟩
    show Q (.bl (decide ((x.length : Int) ≤ 12))) H
    rw [decide_eq_true (show ((x.length : Int) ≤ 12) by omega)]
    exact q
end
end Fp

set_option Elab.async false
set_option linter.all false
set_option maxRecDepth 100000
set_option maxHeartbeats 2000000
namespace Fp
open PySem PySem.Spec PyProof.Rows L2
/-- a table that Bag lets: by the clock c, words of at most m letters, at most k of them -/
structure VT (c : Int) (m k : Nat) (l : Tb) : Prop where
  nd : Nd l
  nu : ∀ p ∈ l, 1 ≤ p.2 ∧ p.2 < c
  wd : ∀ p ∈ l, xyz p.1 ∧ p.1.length ≤ m
  ln : l.length ≤ k
theorem VT.mono {c : Int} {m k m' k' : Nat} {l : Tb} (h : VT c m k l) (hm : m ≤ m') (hk : k ≤ k') : VT c m' k' l :=
  ⟨h.nd, h.nu, fun p hp => ⟨(h.wd p hp).1, Nat.le_trans (h.wd p hp).2 hm⟩, Nat.le_trans h.ln hk⟩
theorem find_of {l : Tb} (h : Nd l) {i : Nat} {p : Str × Int} (e : l[i]? = some p) : (l.find? fun q => decide (q.1 = p.1)) = some p := by
  induction l generalizing i with
  | nil => simp at e
  | cons q r ih =>
    have h' : (q.1 :: r.map (·.1)).Nodup := h
    obtain ⟨h1, h2⟩ := List.nodup_cons.mp h'
    cases i with
    | zero =>
      have : q = p := by simpa using e
      subst this
      rw [List.find?_cons_of_pos (by simp)]
    | succ i =>
      have e' : r[i]? = some p := by simpa using e
      have hm : p ∈ r := List.mem_of_getElem? e'
      have hne : q.1 ≠ p.1 := fun z => h1 (z ▸ List.mem_map.mpr ⟨p, hm, rfl⟩)
      rw [List.find?_cons_of_neg (by simpa using hne)]
      exact ih h2 e'
theorem num_of {l : Tb} (h : Nd l) {i : Nat} {p : Str × Int} (e : l[i]? = some p) : num l p.1 = p.2 := by
  unfold num
  rw [find_of h e]
  rfl
theorem has_of {l : Tb} {i : Nat} {p : Str × Int} (e : l[i]? = some p) : has l p.1 = true := has_iff.mpr (List.mem_map.mpr ⟨p, List.mem_of_getElem? e, rfl⟩)
theorem kv_at {l : Tb} {i : Nat} {k : Key} {v : V} (e : (kv l)[i]? = some (k, v)) : ∃ p, l[i]? = some p ∧ k = Sum.inr p.1 ∧ v = .int p.2 := by
  unfold kv at e
  rw [List.getElem?_map] at e
  cases q : l[i]? with
  | none => rw [q] at e; cases e
  | some p =>
    rw [q] at e
    have e2 := Option.some.inj e
    injection e2 with e3 e4
    exact ⟨p, rfl, e3.symm, e4.symm⟩
section
variable {P : Program} {w : World} {K : PySem.W.Frag} {mg : Str → Option Value} {base : Heap}
def spAreWords : Sp := fun vs H Q _ => ∃ (c : Int) (d : Addr) (l : Tb), vs = [.int c, .ref d] ∧ H d = some (.dK (kv l)) ∧ VT c 12 300 l ∧ ∀ H', Same H H' → Q (.bl true) H'
abbrev nAreWords : List Str := ["clock", "thing", "word"]
theorem sc_are_words : FnScope nAreWords ["clock", "thing"] (defScope s_are_words) := ⟨rfl, rfl, rfl, by decide +kernel, rfl, by decide +kernel, by decide +kernel⟩
theorem ok_are_words (T : Top K mg) : Ok P w K mg base 4 "are_words" ["clock", "thing"] spAreWords := by
  obtain ⟨fd, F⟩ := fn_are_words T
  obtain ⟨tk, hL⟩ := i_MOST_WORDS T
  refine ⟨⟨fd, ?_, F.bindsN fun _ _ _ _ _ _ us hl => match us, hl with | [_, _], _ => rfl⟩, g_are_words T, F.kp⟩
  refine F.ok sc_are_words (fun vs H Q E h => ?_) (fun cdv A outer s H vs Q E hr h => ?_)
  · obtain ⟨c, d, l, rfl, _⟩ := h
    rfl
  · obtain ⟨c, d, l, rfl, hd, hv, q⟩ := h
    have hu := hu_of hr
    have nd := sc_are_words.nd
    have hr2 : Room 2 _ := hr.mono (by decide)
    have hs : sizeLine = 16777216 := sizeLine_eq
    have hln := hv.ln
    refine ⟨_, PSs.nox (pss_cons (ps_if (PW.pt (pw_or (pt_not (pt_val (pe_callB call_isi (by rfl) (f_isinstance T) (by decide +kernel) (pa_cons (pv 1) (pa_cons (pe_bltn (v := .ty "dict") (by rfl) (f_dict T) (by decide +kernel) rfl) pa_nil)))))
        (pw_or1 (pt_cmpR op_gt (pe_callB call_lenD (by rfl) (f_len T) PySem.boot_len (pa_cons (pv 1) pa_nil)) (pe_glob (v := .int 300) rfl hL ⟨_, rfl⟩) (nomark _))))) (pss_one (ps_ret pe_bl)) pss_nil)
      (pss_one (ps_ret (pe_callB (cr_all rfl) (by rfl) (f_all T) (by decide +kernel) (pa_cons (pe_lock (pe_lc (own := [("word", 2)]) (g := gName 2) (tt := tYes) rfl nd (pi_keys (pv 1)) (blkOk_by (N := nAreWords) (sc := defScope s_are_words) (by decide +kernel))
        (fun _ _ _ _ _ => pg_name (i := 2) nd rfl (Or.inl rfl)) (fun _ _ _ _ _ => pts_nil)
        (fun _ _ _ _ _ => pe_and (pc (ok_is_short_word T) hr2 (pa_cons (pv 2) pa_nil)) (pe_one (pc (ok_is_from_to T) hr2 (pa_cons (pe_dget hu (pv 1) (pv 2) (fun _ _ => rfl)) (pa_cons pe_int (pa_cons (pe_op op_sub (pv 0) pe_int) pa_nil)))))))) pa_nil))))), ?_⟩
    refine ⟨_, rfl, .ref d, _, _, _, true, rfl, .ty "dict", .base (.dK hd), kit_ty (by decide +kernel), true, rfl, iteF ?_⟩
    refine ⟨_, rfl, d, _, rfl, hd, _, _, rfl, rfl, _, rfl, ?_⟩
    rw [show decide ((300 : Int) < ((kv l).length : Int)) = false by
      rw [kv_len]
      exact decide_eq_false (by omega)]
    refine iteF ?_
    refine ⟨d, _, hd, trivial, fun od => ?_⟩
    refine ⟨_, rfl, d, od, rfl, .inl ⟨kv l, upd_same, fun D hD => ?_⟩⟩
    have nD : D ≠ d := fun e => by
      rw [e, upd_same] at hD
      cases hD
    refine lc_it walk_keys (fun i H' => H' D = some (.lst ((List.replicate i true).map V.bl)) ∧ But d H H' ∧ H' d = some (.frz od (.dK (kv l)))) ⟨upd_same, ?_, ?_⟩ (fun i H' _ hP => hP.2.2) ?_ ?_
    · intro b o e n
      have nb : b ≠ D := by
        rintro rfl
        rw [upd_ne n, e] at hD
        cases hD
      rw [upd_ne nb, upd_ne n]
      exact e
    · rw [upd_ne nD.symm]
      exact upd_same
    · rintro i x H1 H2 hi ⟨p1, p2, p3⟩ ⟨rfl, k, v, e, rfl⟩
      obtain ⟨p, ep, rfl, rfl⟩ := kv_at e
      have hp : p ∈ l := List.mem_of_getElem? ep
      rw [kv_len] at hi
      refine ⟨rfl, ?_⟩
      refine ⟨_, rfl, p.1, rfl, (hv.wd p hp).1, (hv.wd p hp).2, true, rfl, iteT ?_⟩
      refine ⟨_, rfl, _, rfl, d, .int p.2, rfl, .inl ⟨kv l, Sum.inr p.1, .inr ⟨od, p3⟩, rfl, ?_⟩, ?_⟩
      · rw [valV_yes (has_of ep), num_of hv.nd ep]
      · refine ⟨_, rfl, _, _, rfl, rfl, p.2, 1, c - 1, rfl, ?_⟩
        have hn := hv.nu p hp
        rw [decide_eq_true (show (1 : Int) ≤ p.2 from hn.1), decide_eq_true (show p.2 ≤ c - 1 by omega)]
        refine ⟨_, p1, ?_, ?_, ?_, ?_⟩
        · rw [List.length_map, List.length_replicate]
          omega
        · rw [upd_same, List.replicate_succ', List.map_append]
          rfl
        · intro b o e n
          have nb : b ≠ D := by
            rintro rfl
            rw [upd_ne n, e] at hD
            cases hD
          rw [upd_ne nb]
          exact p2 b o e n
        · rw [upd_ne nD.symm]
          exact p3
    · rintro H' ⟨p1, p2, p3⟩
      refine ⟨p3, D, List.replicate (kv l).length true, rfl, .inl (.inl ?_), ?_⟩
      · rw [upd_ne nD]
        exact p1
      · have e1 : (List.replicate (kv l).length true).all id = true := by
          rw [List.all_eq_true]
          intro b hb
          exact (List.mem_replicate.mp hb).2
        rw [e1]
        refine q _ fun b o e => ?_
        by_cases n : b = d
        · rw [n, upd_same, ← hd, ← n, e]
        · rw [upd_ne n]
          exact p2 b o e n
end
end Fp

set_option Elab.async false
set_option linter.all false
set_option maxRecDepth 100000
set_option maxHeartbeats 2000000
namespace L2
open PySem PySem.Spec PyProof.Rows
section
variable {X : Cx}
def rEqP (K : PySem.W.Frag) : R2 := fun x y H Q => ∃ d e, Dp K H x d ∧ Dp K H y e ∧ d.plain = true ∧ e.plain = true ∧ d.depth ≤ 64 ∧ Q (.bl (PyData.eqv d e)) H
theorem op_eqP (hu : X.A.units + 64 < cLine) : OpR X (compareOp .Eq) (rEqP X.K) := by
  intro pins s σ H x y v u Q I rx ry h
  obtain ⟨d, e, hd, he, sd, se, hdp, q⟩ := h
  obtain ⟨as, r1⟩ := Dp.reads I d x v hd rx
  obtain ⟨bs, r2⟩ := Dp.reads I e y u he ry
  exact SeqAt.eq_plain r1 r2 sd se (by omega) ⟨.bl _, H, I, rfl, q⟩
end
end L2
namespace Fp
open PySem PySem.Spec PyProof.Rows L2
/-! ### the tuple of pairs -/
def WordsAt (H : Hp) (t : Addr) (L : Tb) : Prop := ∃ (ps : List Addr) (o : Obj), H t = some (.frz o (.tup (ps.map V.ref))) ∧ PlainTup o ∧ Paired (fun p (q : Str × Int) => H p = some (.tup [.str q.1, .int q.2])) ps L
theorem WordsAt.but {a : Addr} {H H' : Hp} {t : Addr} {L : Tb} (h : WordsAt H t L) (k : But a H H') (ht : t ≠ a) (ha : ∀ xs, H a ≠ some (.tup xs)) : WordsAt H' t L := by
  obtain ⟨ps, o, h1, h2, h3⟩ := h
  exact ⟨ps, o, k _ _ h1 ht, h2, Paired.mapP h3 fun p q e => k _ _ e fun z => ha _ (z ▸ e)⟩
theorem WordsAt.same {H H' : Hp} {t : Addr} {L : Tb} (h : WordsAt H t L) (k : Same H H') : WordsAt H' t L := by
  obtain ⟨ps, o, h1, h2, h3⟩ := h
  exact ⟨ps, o, k _ _ h1, h2, Paired.mapP h3 fun p q e => k _ _ e⟩
/-- a table in the order of words -/
def ordW (l : Tb) : List Str := (l.map (·.1)).mergeSort leR
def canon (l : Tb) : Tb := (ordW l).map fun x => (x, num l x)
theorem ordW_len (l : Tb) : (ordW l).length = l.length := by
  unfold ordW
  rw [List.length_mergeSort, List.length_map]
theorem ordW_mem {l : Tb} {x : Str} : x ∈ ordW l ↔ x ∈ l.map (·.1) := by
  unfold ordW
  exact (List.mergeSort_perm _ _).mem_iff
/-- what a Bag is -/
def flds (c : Int) (t : Addr) : List (Str × V) := putF "words" (.ref t) (putF "clock" (.int c) [])
theorem kwc : ¬ (("clock" : Str) = "words") := by decide +kernel
theorem flds_eq (c : Int) (t : Addr) : flds c t = ([("clock", V.int c), ("words", V.ref t)] : List (Str × V)) := by
  show (if ("clock" : Str) = "words" then [(("words" : Str), V.ref t)] else (("clock" : Str), V.int c) :: putF "words" (.ref t) []) = _
  rw [if_neg kwc]
  all_goals rfl
theorem flds_clock (c : Int) (t : Addr) : (flds c t).lookup ("clock" : Str) = some (.int c) := by
  unfold flds
  rw [lookup_putF, if_neg kwc, lookup_putF, if_pos rfl]
theorem flds_words (c : Int) (t : Addr) : (flds c t).lookup ("words" : Str) = some (.ref t) := by
  unfold flds
  rw [lookup_putF, if_pos rfl]
def BagAt (K : PySem.W.Frag) (H : Hp) (b : Addr) (c : Int) (L : Tb) : Prop := ∃ dx t, H b = some (.ins (He.ga K "Bag") dx (flds c t)) ∧ WordsAt H t L
theorem BagAt.same {K : PySem.W.Frag} {H H' : Hp} {b : Addr} {c : Int} {L : Tb} (h : BagAt K H b c L) (k : Same H H') : BagAt K H' b c L := by
  obtain ⟨dx, t, h1, h2⟩ := h
  exact ⟨dx, t, k _ _ h1, h2.same k⟩
theorem BagAt.but {K : PySem.W.Frag} {a : Addr} {H H' : Hp} {b : Addr} {c : Int} {L : Tb} (h : BagAt K H b c L) (k : But a H H') (ha : ∃ xs, H a = some (.lst xs)) : BagAt K H' b c L := by
  obtain ⟨dx, t, h1, h2⟩ := h
  obtain ⟨xs, hx⟩ := ha
  obtain ⟨ps, o, e1, e2⟩ := id h2
  exact ⟨dx, t, k _ _ h1 (ne_of h1 hx (by intro z; cases z)), h2.but k (ne_of e1 hx (by intro z; cases z)) fun ys => by rw [hx]; intro z; cases z⟩
def dW (L : Tb) : PyData := .tuple (L.map fun p => .tuple [.str p.1, .int p.2])
theorem dp_words {K : PySem.W.Frag} {H : Hp} {t : Addr} {L : Tb} (h : WordsAt H t L) : Dp K H (.ref t) (dW L) := by
  obtain ⟨ps, o, h1, _, h3⟩ := h
  refine .tup (.inl (.inr ⟨o, h1⟩)) ?_
  clear h1
  induction h3 with
  | nil => exact .nil
  | cons e _ ih => exact .cons (.tup (.inl (.inl e)) (.cons (.str _) (.cons (.int _) .nil))) ih
theorem dW_plain (L : Tb) : (dW L).plain = true := by
  show PyData.plainAll (L.map fun p => .tuple [.str p.1, .int p.2]) = true
  induction L with
  | nil => rfl
  | cons p r ih =>
    rw [List.map_cons]
    simp only [PyData.plainAll, PyData.plain, Bool.and_self, Bool.true_and]
    exact ih
theorem dW_depth (L : Tb) : (dW L).depth ≤ 64 := by
  have h : PyData.depthAll (L.map fun p => PyData.tuple [.str p.1, .int p.2]) ≤ 3 := by
    induction L with
    | nil => simp [PyData.depthAll]
    | cons p r ih =>
      rw [List.map_cons]
      simp only [PyData.depthAll, PyData.depth]
      have : max 0 (max 0 0) = 0 := rfl
      omega
  show (PyData.tuple _).depth ≤ 64
  simp only [PyData.depth]
  omega
theorem dW_eqv : ∀ L M : Tb, PyData.eqv (dW L) (dW M) = decide (L = M) := by
  intro L M
  show PyData.eqvAll (L.map fun p => PyData.tuple [.str p.1, .int p.2]) (M.map fun p => PyData.tuple [.str p.1, .int p.2]) = decide (L = M)
  induction L generalizing M with
  | nil =>
    cases M with
    | nil => rfl
    | cons q s => simp [PyData.eqvAll]
  | cons p r ih =>
    cases M with
    | nil => simp [PyData.eqvAll]
    | cons q s =>
      rw [List.map_cons, List.map_cons]
      simp only [PyData.eqvAll, PyData.eqv, ih s]
      obtain ⟨x, n⟩ := p
      obtain ⟨y, m⟩ := q
      by_cases h1 : x = y <;> by_cases h2 : n = m <;> by_cases h3 : r = s <;> simp [h1, h2, h3]
section
variable {P : Program} {w : World} {K : PySem.W.Frag} {mg : Str → Option Value} {base : Heap}
def spPairs : Sp := fun vs H Q _ => ∃ (d : Addr) (l : Tb), vs = [.ref d] ∧ H d = some (.dK (kv l)) ∧ Nd l ∧ (∀ p ∈ l, p.1.length ≤ 1000000) ∧ l.length ≤ 1000000 ∧ ∀ H' t, Same H H' → H t = none → WordsAt H' t (canon l) → Q (.ref t) H'
abbrev nPairs : List Str := ["table", "word"]
theorem sc_pairs_of : FnScope nPairs ["table"] (defScope s_pairs_of) := ⟨rfl, rfl, rfl, by decide +kernel, rfl, by decide +kernel, by decide +kernel⟩
theorem ok_pairs_of (T : Top K mg) : Ok P w K mg base 2 "pairs_of" ["table"] spPairs := by
  obtain ⟨fd, F⟩ := fn_pairs_of T
  obtain ⟨fdR, FR⟩ := fn_rank_of T
  refine ⟨⟨fd, ?_, F.bindsN fun _ _ _ _ _ _ us hl => match us, hl with | [_], _ => rfl⟩, g_pairs_of T, F.kp⟩
  refine F.ok sc_pairs_of (fun vs H Q E h => ?_) (fun cdv A outer s H vs Q E hr h => ?_)
  · obtain ⟨d, l, rfl, _⟩ := h
    rfl
  · obtain ⟨d, l, rfl, hd, hnd, hwl, hll, q⟩ := h
    have hu := hu_of hr
    have nd := sc_pairs_of.nd
    have hs : sizeLine = 16777216 := sizeLine_eq
    refine ⟨_, PSs.nox (pss_one (ps_ret (pe_callTy call_tupleF (by rfl) (f_tuple T) (by decide +kernel) (pa_cons (pe_lc (own := [("word", 1)]) (g := gName 1) (tt := tYes) rfl nd
      (pi_list (pe_callBK (cr_sortRk rfl FR (f_len T) hr) (by rfl) (f_sorted T) (by decide +kernel) (pa_cons (pv 0) pa_nil) (pk_cons (pe_glob (v := .ref (He.ga K "rank_of")) rfl (g_rank_of T) rfl) pk_nil)))
      (blkOk_by (N := nPairs) (sc := defScope s_pairs_of) (by decide +kernel)) (fun _ _ _ _ _ => pg_name (i := 1) nd rfl (Or.inl rfl)) (fun _ _ _ _ _ => pts_nil)
      (fun _ _ _ _ _ => pe_tup (pa_cons (pv 1) (pa_cons (pe_dget hu (pv 0) (pv 1) (fun _ _ => rfl)) pa_nil)))) pa_nil)))), ?_⟩
    refine ⟨_, rfl, d, kv l, l.map (·.1), rfl, rfl, .inl hd, kv_keys l, ?_, fun S hS => ?_⟩
    · intro x hx
      obtain ⟨p, hp, rfl⟩ := List.mem_map.mp hx
      have := hwl p hp
      omega
    · refine ⟨S, rfl, ⟨_, .inl (.inl upd_same)⟩, fun D hD => ?_⟩
      have nDS : D ≠ S := fun e => by
        rw [e, upd_same] at hD
        cases hD
      have hD0 : H D = none := by
        rw [upd_ne nDS] at hD
        exact hD
      have nSd : d ≠ S := ne_of_none hd hS
      have nDd : d ≠ D := ne_of_none hd hD0
      refine lc_it (walk_list (xs := (ordW l).map V.str)) (fun i H' => ∃ ps : List Addr, H' D = some (.lst (ps.map V.ref)) ∧ ps.length = i ∧ Paired (fun p (q : Str × Int) => H' p = some (.tup [.str q.1, .int q.2])) ps ((canon l).take i) ∧ Same H H' ∧ H' S = some (.lst ((ordW l).map V.str)))
        ⟨[], upd_same, rfl, .nil, ?_, ?_⟩ (fun i H' _ hP => .inl (.inl hP.choose_spec.2.2.2.2)) ?_ ?_
      · intro b o e
        rw [upd_ne (ne_of_none e hD0), upd_ne (ne_of_none e hS)]
        exact e
      · rw [upd_ne nDS.symm]
        exact upd_same
      · rintro i x H1 H2 hi ⟨ps, p1, p2, p3, p4, p5⟩ ⟨rfl, e⟩
        rw [List.length_map, ordW_len] at hi
        rw [List.getElem?_map] at e
        cases ew : (ordW l)[i]? with
        | none => rw [ew] at e; cases e
        | some x0 =>
          rw [ew] at e
          have e2 : V.str x0 = x := Option.some.inj e
          subst e2
          have hx0 : x0 ∈ l.map (·.1) := ordW_mem.mp (List.mem_of_getElem? ew)
          refine ⟨rfl, ?_⟩
          refine ⟨_, rfl, _, rfl, _, rfl, d, .int (num l x0), rfl, .inl ⟨kv l, Sum.inr x0, .inl (p4 _ _ hd), rfl, (valV_yes (has_iff.mpr hx0)).symm⟩, ?_⟩
          refine ⟨by show 2 ≤ sizeLine; omega, fun p hp => ?_⟩
          have npD : D ≠ p := ne_of_none p1 hp
          have npS : S ≠ p := ne_of_none p5 hp
          refine ⟨ps.map V.ref, ?_, ?_, ps ++ [p], ?_, ?_, ?_, ?_, ?_⟩
          · rw [upd_ne npD]
            exact p1
          · rw [List.length_map]
            omega
          · rw [upd_same, List.map_append]
            rfl
          · rw [List.length_append, p2]
            rfl
          · have ec : (canon l).take (i + 1) = (canon l).take i ++ [(x0, num l x0)] := by
              rw [List.take_add_one]
              unfold canon
              rw [List.getElem?_map, ew]
              rfl
            rw [ec]
            refine Paired.snoc (Paired.mapP p3 fun a b z => ?_) ?_
            · have na : a ≠ D := ne_of z p1 (by intro y; cases y)
              rw [upd_ne na, upd_ne (ne_of_none z hp)]
              exact z
            · rw [upd_ne npD.symm]
              exact upd_same
          · intro b o z
            have nb : b ≠ D := ne_of_none z hD0
            rw [upd_ne nb, upd_ne (ne_of_none (p4 b o z) hp)]
            exact p4 b o z
          · rw [upd_ne nDS.symm, upd_ne npS]
            exact p5
      · rintro H' ⟨ps, p1, p2, p3, p4, p5⟩
        have en : ((ordW l).map V.str).length = (canon l).length := by
          unfold canon
          rw [List.length_map, List.length_map]
        rw [en, List.take_length] at p3
        refine ⟨D, ps.map V.ref, rfl, .inl (.inl p1), fun t o ht hpt => ?_⟩
        have ht0 : H t = none := by
          cases z : H t with
          | none => rfl
          | some u =>
            rw [p4 t u z] at ht
            cases ht
        refine q _ t (p4.trans (same_upd ht)) ht0 ⟨ps, o, upd_same, hpt, Paired.mapP p3 fun a b z => ?_⟩
        rw [upd_ne (ne_of_none z ht)]
        exact z
end
end Fp

set_option Elab.async false
set_option linter.all false
set_option maxRecDepth 100000
set_option maxHeartbeats 2000000
namespace Fp
open PySem PySem.Spec PyProof.Rows L2
section
variable {P : Program} {w : World} {K : PySem.W.Frag} {mg : Str → Option Value} {base : Heap}
def spInit (K : PySem.W.Frag) : Sp := fun vs H Q _ => ∃ (b d dx : Addr) (c : Int) (l : Tb), vs = [.ref b, .int c, .ref d] ∧ H b = some (.ins (He.ga K "Bag") dx []) ∧ isCk c ∧ H d = some (.dK (kv l)) ∧ VT c 12 300 l ∧
  ∀ H', But b H H' → BagAt K H' b c (canon l) → Q .non H'
abbrev nInit : List Str := ["self", "clock", "words"]
theorem sc_init : FnScope nInit nInit (defScope s_Bag__init__) := ⟨rfl, rfl, rfl, by decide +kernel, rfl, by decide +kernel, by decide +kernel⟩
theorem ok_init (T : Top K mg) : ∃ fd, FnOk P w K mg base CX0 5 (He.ma K (He.ga K "Bag") "__init__") fd nInit (spInit K) ∧ Binds K fd nInit [] := by
  obtain ⟨fd, F⟩ := fn_Bag__init__ T
  refine ⟨fd, ?_, F.bindsN fun _ _ _ _ _ _ us hl => match us, hl with | [_, _, _], _ => rfl⟩
  refine F.ok sc_init (fun vs H Q E h => ?_) (fun cdv A outer s H vs Q E hr h => ?_)
  · obtain ⟨b, d, dx, c, l, rfl, _⟩ := h
    rfl
  · obtain ⟨b, d, dx, c, l, rfl, hb, hc, hd, hv, q⟩ := h
    have hr2 : Room 2 _ := hr.mono (by decide)
    refine ⟨_, PSs.nox (pss_cons (ps_if (pt_not (pt_val (pc (ok_is_clock T) hr2 (pa_cons (pv 1) pa_nil)))) (pss_one ps_never) pss_nil)
      (pss_cons (ps_if (pt_not (pt_val (pc (ok_are_words T) hr (pa_cons (pv 1) (pa_cons (pv 2) pa_nil))))) (pss_one ps_never) pss_nil)
      (pss_cons (ps_fld (pv 0) (pv 1) rfl)
      (pss_one (ps_fld (pv 0) (pc (ok_pairs_of T) hr2 (pa_cons (pv 2) pa_nil)) rfl))))), ?_⟩
    refine ⟨_, rfl, c, rfl, hc, true, rfl, iteF ?_⟩
    refine ⟨_, rfl, _, rfl, c, d, l, rfl, hd, hv, fun H1 s1 => ⟨true, rfl, iteF ?_⟩⟩
    have nbd : b ≠ d := ne_of hb hd (by intro z; cases z)
    refine ⟨_, rfl, _, rfl, b, _, dx, [], rfl, s1 _ _ hb, cls_Bag T, na_Bag_clock T, by show 0 < 1000; decide, ?_⟩
    refine ⟨_, rfl, d, l, rfl, ?_, hv.nd, fun p hp => Nat.le_trans (hv.wd p hp).2 (by decide), Nat.le_trans hv.ln (by decide), fun H2 t s2 ht hw => ?_⟩
    · rw [upd_ne nbd.symm]
      exact s1 _ _ hd
    refine ⟨_, rfl, b, _, dx, _, rfl, s2 _ _ upd_same, cls_Bag T, na_Bag_words T, by show 1 < 1000; decide, ?_⟩
    have nt : t ≠ b := fun e => by
      rw [e, upd_same] at ht
      cases ht
    refine q _ (fun y o e n => ?_) ⟨dx, t, upd_same, ?_⟩
    · rw [upd_ne n]
      refine s2 _ _ ?_
      rw [upd_ne n]
      exact s1 _ _ e
    · exact hw.but (a := b) but_upd nt fun xs z => by
        rw [s2 _ _ upd_same] at z
        cases z
/-- Bag(c, d) -/
theorem pbag {X : Cx} {p pos : Pos} {e : Expr} {es : List Expr} {t : TA} (T : Top X.K X.mg) (hr : Room 6 X.A) (ha : PA X (e :: es) t) (hg : Gl X "Bag" := by rfl)
    (he : starEach (e :: es) X.env = (false, eval e X.env) :: starEach es X.env := by rfl) (hpl : (backTo pos (starEach es X.env)).any (·.1) = false := by rfl) : PE X (.Call (.Name "Bag" p) (e :: es) [] pos) (tMake (He.ga X.K "Bag") (spInit X.K) [] E0 t) := by
  obtain ⟨fd, F, b⟩ := ok_init (P := X.prog) (w := X.w) (base := X.base) T
  exact pe_make (mk_Bag T) F hr hg (g_Bag T) b .nil pass0 ha (by decide) he hpl
theorem bag_made {K : PySem.W.Frag} {H : Hp} {d : Addr} {c : Int} {l : Tb} {Q : VK} (hc : isCk c) (hd : H d = some (.dK (kv l))) (hv : VT c 12 300 l) (h : ∀ H' b, Same H H' → H b = none → BagAt K H' b c (canon l) → Q (.ref b) H') :
    ∀ x dx, H x = none → H dx = none → dx ≠ x → spInit K (.ref x :: ([.int c, .ref d] ++ [])) (upd (upd H dx (.own x)) x (.ins (He.ga K "Bag") dx [])) (fun v H2 => v = .non ∧ Q (.ref x) H2) E0 := fun x dx hx hdx ne => by
  refine ⟨x, d, dx, c, l, rfl, upd_same, hc, ?_, hv, fun H' k hb => ⟨rfl, h H' x (fun b o e => ?_) hx hb⟩⟩
  · rw [upd_ne (ne_of_none hd hx), upd_ne (ne_of_none hd hdx)]
    exact hd
  · refine k b o ?_ (ne_of_none e hx)
    rw [upd_ne (ne_of_none e hx), upd_ne (ne_of_none e hdx)]
    exact e
/-- what == answers -/
def spEqB (K : PySem.W.Frag) : Sp := fun vs H Q _ => ∃ (a : Addr) (y : V) (c : Int) (L : Tb), vs = [.ref a, y] ∧ BagAt K H a c L ∧
  ((∃ b c' M, y = .ref b ∧ BagAt K H b c' M ∧ Q (.bl (decide (c = c' ∧ L = M))) H) ∨ (∃ t, TyX K H y t ∧ PySem.W.kitOne K t (.ref (He.ga K "Bag")) = some false ∧ Q (.bl false) H))
abbrev nEq : List Str := ["self", "other"]
theorem sc_eq : FnScope nEq nEq (defScope s_Bag__eq__) := ⟨rfl, rfl, rfl, by decide +kernel, rfl, by decide +kernel, by decide +kernel⟩
theorem ok_eq (T : Top K mg) : ∃ fd, FnOk P w K mg base CX0 1 (He.ma K (He.ga K "Bag") "__eq__") fd nEq (spEqB K) ∧ Binds K fd nEq [] := by
  obtain ⟨fd, F⟩ := fn_Bag__eq__ T
  refine ⟨fd, ?_, F.bindsN fun _ _ _ _ _ _ us hl => match us, hl with | [_, _], _ => rfl⟩
  refine F.ok sc_eq (fun vs H Q E h => ?_) (fun cdv A outer s H vs Q E hr h => ?_)
  · obtain ⟨a, y, c, L, rfl, _⟩ := h
    rfl
  · obtain ⟨a, y, c, L, rfl, ⟨dx, t, ha, hw⟩, h⟩ := h
    refine ⟨_, PSs.nox (pss_one (ps_ret (pe_and (pe_callB call_isi (by rfl) (f_isinstance T) (by decide +kernel) (pa_cons (pv 1) (pa_cons (pe_glob (v := .ref (He.ga K "Bag")) rfl (g_Bag T) rfl) pa_nil)))
      (pe_and (pe_cmpR op_eq (pe_fld (pv 0) rfl) (pe_fld (pv 1) rfl) (nomark _)) (pe_one (pe_cmpR (op_eqP hr.units) (pe_fld (pv 0) rfl) (pe_fld (pv 1) rfl) (nomark _))))))), ?_⟩
    rcases h with ⟨b, c', M, rfl, ⟨dy, t', hb, hw'⟩, q⟩ | ⟨ty, hty, hk, q⟩
    · refine ⟨_, rfl, _, _, _, _, true, rfl, .own _, .base (.ins hb (cls_Bag T) (x_class T) (x_get T) (x_takes T) (x_mro T)), x_is T, true, rfl, iteT ?_⟩
      refine ⟨_, rfl, a, _, dx, _, _, rfl, ha, cls_Bag T, na_Bag_clock T, flds_clock _ _, _, rfl, b, _, dy, _, _, rfl, hb, cls_Bag T, na_Bag_clock T, flds_clock _ _, rfl, _, rfl, ?_⟩
      by_cases e : c = c'
      · rw [decide_eq_true (show V.int c = V.int c' by rw [e])]
        refine iteT ?_
        refine ⟨_, rfl, a, _, dx, _, _, rfl, ha, cls_Bag T, na_Bag_words T, flds_words _ _, _, rfl, b, _, dy, _, _, rfl, hb, cls_Bag T, na_Bag_words T, flds_words _ _, dW L, dW M, dp_words hw, dp_words hw', dW_plain L, dW_plain M, dW_depth L, ?_⟩
        rw [dW_eqv]
        have e2 : decide (c = c' ∧ L = M) = decide (L = M) := by simp [e]
        rw [e2] at q
        exact q
      · rw [decide_eq_false (show ¬ V.int c = V.int c' from fun z => e (by injection z))]
        refine iteF ?_
        rw [decide_eq_false (show ¬ (c = c' ∧ L = M) from fun z => e z.1)] at q
        exact q
    · exact ⟨_, rfl, y, _, ty, _, false, rfl, .own _, hty, hk, false, rfl, iteF q⟩
end
end Fp

set_option Elab.async false
set_option linter.all false
set_option maxRecDepth 100000
set_option maxHeartbeats 4000000
namespace Fp
open PySem PySem.Spec PyProof.Rows L2
/-! ### the hand: what is drawn from -/
def HandAt (ca : Addr) (H : Hp) (h : Addr) : Prop := ∃ (cs : List Int) (a l sd tn : Int), H h = some (.lst [.ref ca, .int a, .int l, .int sd, .int tn]) ∧ H ca = some (.lst (cs.map V.int)) ∧ cs.length ≤ 63 ∧ (∀ c ∈ cs, 0 ≤ c) ∧ 0 ≤ a ∧ 0 ≤ l
theorem HandAt.ne {H : Hp} {h ca : Addr} {cs : List Int} {a l sd tn : Int} (h1 : H h = some (.lst [.ref ca, .int a, .int l, .int sd, .int tn])) (h2 : H ca = some (.lst (cs.map V.int))) : ca ≠ h := by
  refine ne_of h2 h1 fun z => ?_
  injection z with z
  cases cs with
  | nil => cases z
  | cons c r =>
    rw [List.map_cons] at z
    injection z with z1
    cases z1
theorem HandAt.lst {ca : Addr} {H : Hp} {h : Addr} (x : HandAt ca H h) : ∃ xs, H h = some (.lst xs) := by
  obtain ⟨cs, a, l, sd, tn, h1, _⟩ := x
  exact ⟨_, h1⟩
theorem HandAt.but {ca : Addr} {H H' : Hp} {h d : Addr} (x : HandAt ca H h) (k : But d H H') (hd : ∀ xs, H d ≠ some (.lst xs)) : HandAt ca H' h := by
  obtain ⟨cs, a, l, sd, tn, h1, h2, r⟩ := x
  exact ⟨cs, a, l, sd, tn, k _ _ h1 (fun z => hd _ (z ▸ h1)), k _ _ h2 (fun z => hd _ (z ▸ h2)), r⟩
theorem HandAt.same {ca : Addr} {H H' : Hp} {h : Addr} (x : HandAt ca H h) (k : Same H H') : HandAt ca H' h := by
  obtain ⟨cs, a, l, sd, tn, h1, h2, r⟩ := x
  exact ⟨cs, a, l, sd, tn, k _ _ h1, k _ _ h2, r⟩
theorem HandAt.off {ca : Addr} {H H' : Hp} {h d : Addr} (x : HandAt ca H h) (k : But d H H') (h1 : h ≠ d) (h2 : ca ≠ d) : HandAt ca H' h := by
  obtain ⟨cs, a, l, sd, tn, g1, g2, r⟩ := x
  exact ⟨cs, a, l, sd, tn, k _ _ g1 h1, k _ _ g2 h2, r⟩
theorem HandAt.cells {ca : Addr} {H : Hp} {h : Addr} (x : HandAt ca H h) : ∃ xs, H ca = some (.lst xs) := by
  obtain ⟨cs, a, l, sd, tn, h1, h2, _⟩ := x
  exact ⟨_, h2⟩
theorem cut63 (ns : List Int) : cutV (ns.map V.int) none (some 63) = (ns.take 63).map V.int := by
  unfold cutV
  rw [show HT.sIx (ns.map V.int).length (ns.map V.int).length (some 63) = min 63 (ns.map V.int).length from HT.sIx_nat _ _ 63, HT.sIx_none, List.drop_zero, Nat.sub_zero, List.length_map, List.map_take]
  by_cases h : ns.length ≤ 63
  · rw [Nat.min_eq_right h, List.take_of_length_le (by rw [List.length_map]; exact Nat.le_refl _), List.take_of_length_le (by rw [List.length_map]; exact h)]
  · rw [Nat.min_eq_left (by omega)]
section
variable {P : Program} {w : World} {K : PySem.W.Frag} {mg : Str → Option Value} {base : Heap}
def spHand (K : PySem.W.Frag) : Sp := fun vs H Q _ => ∃ (a : Addr) (ns : List Int), vs = [.ref a] ∧ SqL K H a (ns.map V.int) ∧ ∀ H' h ca, Same H H' → H h = none → HandAt ca H' h → Q (.ref h) H'
abbrev nHand : List Str := ["_law_script", "_law_cells", "_law_cell"]
theorem sc_hand : FnScope nHand ["_law_script"] (defScope s__law_hand) := ⟨rfl, rfl, rfl, by decide +kernel, rfl, by decide +kernel, by decide +kernel⟩
theorem ok_hand (T : Top K mg) : Ok P w K mg base 1 "_law_hand" ["_law_script"] (spHand K) := by
  obtain ⟨fd, F⟩ := fn__law_hand T
  refine ⟨⟨fd, ?_, F.bindsN fun _ _ _ _ _ _ us hl => match us, hl with | [_], _ => rfl⟩, g__law_hand T, F.kp⟩
  refine F.ok sc_hand (fun vs H Q E h => ?_) (fun cdv A outer s H vs Q E hr h => ?_)
  · obtain ⟨a, ns, rfl, _⟩ := h
    rfl
  · obtain ⟨a, ns, rfl, hS, q⟩ := h
    have nd := sc_hand.nd
    have hs : sizeLine = 16777216 := sizeLine_eq
    refine ⟨_, PSs.nox (pss_cons (ps_setLc (i := 1) (own := [("_law_cell", 2)]) (g := gName 2) (tt := tYes) (by rfl) nd rfl rfl (sw_true rfl rfl rfl (by decide +kernel)) (pi_list (pe_slice sl_list (pv 0) po_none (po_some pe_int)))
        (blkOk_by (N := nHand) (sc := defScope s__law_hand) (by decide +kernel)) (fun _ _ _ _ _ => pg_name (i := 2) nd rfl (Or.inl rfl)) (fun _ _ _ _ _ => pts_nil)
        (fun _ _ _ _ _ => pe_callB call_abs (by rfl) (f_abs T) (by decide +kernel) (pa_cons (pe_callTy call_int1 (by rfl) (f_int T) boot_int (pa_cons (pv 2) pa_nil)) pa_nil)))
      (pss_one (ps_ret (pe_lst (pa_cons (pv 1) (pa_cons pe_int (pa_cons pe_int (pa_cons (pe_op op_add pe_int (pe_callB call_len (by rfl) (f_len T) PySem.boot_len (pa_cons (pv 1) pa_nil))) (pa_cons pe_int pa_nil))))))))), ?_⟩
    refine ⟨_, rfl, _, rfl, a, _, rfl, hS, fun S hSn => ?_⟩
    rw [cut63]
    refine ⟨S, rfl, ⟨_, .inl (.inl upd_same)⟩, fun D hD => ?_⟩
    have nDS : D ≠ S := fun e => by
      rw [e, upd_same] at hD
      cases hD
    have hD0 : H D = none := by
      rw [upd_ne nDS] at hD
      exact hD
    refine lc_it (walk_list (xs := (ns.take 63).map V.int)) (fun i H' => (∃ cs : List Int, H' D = some (.lst (cs.map V.int)) ∧ cs.length = i ∧ ∀ c ∈ cs, 0 ≤ c) ∧ Same H H' ∧ H' S = some (.lst ((ns.take 63).map V.int)))
      ⟨⟨[], upd_same, rfl, fun c hc => by cases hc⟩, ?_, ?_⟩ (fun i H' _ hP => .inl (.inl hP.2.2)) ?_ ?_
    · intro b o e
      rw [upd_ne (ne_of_none e hD0), upd_ne (ne_of_none e hSn)]
      exact e
    · rw [upd_ne nDS.symm]
      exact upd_same
    · rintro i x H1 H2 hi ⟨⟨cs, p1, p2, p3⟩, p4, p5⟩ ⟨rfl, e⟩
      rw [List.length_map, List.length_take] at hi
      rw [List.getElem?_map] at e
      cases en : (ns.take 63)[i]? with
      | none => rw [en] at e; cases e
      | some n =>
        rw [en] at e
        have e2 : V.int n = x := Option.some.inj e
        subst e2
        refine ⟨rfl, ?_⟩
        refine ⟨_, rfl, .inl ⟨n, rfl, n, rfl, cs.map V.int, p1, ?_, ⟨cs ++ [if n < 0 then -n else n], ?_, ?_, ?_⟩, ?_, ?_⟩⟩
        · rw [List.length_map]
          omega
        · rw [upd_same, List.map_append]
          rfl
        · rw [List.length_append, p2]
          rfl
        · intro c hc
          rcases List.mem_append.mp hc with hc | hc
          · exact p3 c hc
          · have : c = if n < 0 then -n else n := by simpa using hc
            rw [this]
            split <;> omega
        · intro b o z
          rw [upd_ne (ne_of_none z hD0)]
          exact p4 b o z
        · rw [upd_ne nDS.symm]
          exact p5
    · rintro H' ⟨⟨cs, p1, p2, p3⟩, p4, p5⟩
      rw [List.length_map, List.length_take] at p2
      refine ⟨_, rfl, _, rfl, .ref D, cs.length, rfl, .inl ⟨_, .inl (.inl p1), by rw [List.length_map]⟩, _, _, rfl, rfl, ?_⟩
      refine ⟨by show 5 ≤ sizeLine; omega, fun h hh => ?_⟩
      have hh0 : H h = none := by
        cases z : H h with
        | none => rfl
        | some u =>
          rw [p4 h u z] at hh
          cases hh
      refine q _ h D (p4.trans (same_upd hh)) hh0 ⟨cs, 0, 0, _, 0, upd_same, ?_, by omega, p3, by omega, by omega⟩
      rw [upd_ne (ne_of_none p1 hh)]
      exact p1
def spDraw : Sp := fun vs H Q _ => ∃ (h ca : Addr) (n : Int), vs = [.ref h, .int n] ∧ 0 < n ∧ n < 1073741824 ∧ HandAt ca H h ∧ ∀ (r : Int) (H' : Hp), 0 ≤ r → r < n → HandAt ca H' h → But h H H' → Q (.int r) H'
abbrev nDraw : List Str := ["_law_hand_here", "_law_many", "_law_cell", "_law_digit", "_law_number"]
theorem sc_draw : FnScope nDraw ["_law_hand_here", "_law_many"] (defScope s__law_draw) := ⟨rfl, rfl, rfl, by decide +kernel, rfl, by decide +kernel, by decide +kernel⟩
theorem ok_draw (T : Top K mg) : Ok P w K mg base 1 "_law_draw" ["_law_hand_here", "_law_many"] spDraw := by
  obtain ⟨fd, F⟩ := fn__law_draw T
  refine ⟨⟨fd, ?_, F.bindsN fun _ _ _ _ _ _ us hl => match us, hl with | [_, _], _ => rfl⟩, g__law_draw T, F.kp⟩
  refine F.ok sc_draw (fun vs H Q E h => ?_) (fun cdv A outer s H vs Q E hr h => ?_)
  · obtain ⟨h, ca, n, rfl, _⟩ := h
    rfl
  · obtain ⟨h, ca, n, rfl, hn0, hn1, hh, q⟩ := h
    have nd := sc_draw.nd
    refine ⟨_, PSs.nox (pss_cons (ps_if (PW.pt (pw_and (pt_cmpR op_eq (pe_ix ix_list (pv 0) pe_int (fun _ _ => rfl)) pe_int (nomark _)) (pw_and1 (pt_cmpR op_lt (pe_ix ix_list (pv 0) pe_int (fun _ _ => rfl)) (pe_callB call_len (by rfl) (f_len T) PySem.boot_len (pa_cons (pe_ix ix_list (pv 0) pe_int (fun _ _ => rfl)) pa_nil)) (nomark _)))))
        (pss_cons (ps_set (i := 2) nd rfl (Or.inl rfl) (pe_ix ix_list (pe_ix ix_list (pv 0) pe_int (fun _ _ => rfl)) (pe_ix ix_list (pv 0) pe_int (fun _ _ => rfl)) (fun _ _ => rfl)))
        (pss_cons (ps_asg (pe_op op_add (pe_ix ix_list (pv 0) pe_int (fun _ _ => rfl)) pe_int) (pg_sub (pv 0) pe_int set_list))
        (pss_cons (ps_asg (pe_op op_mod (pe_callTy call_int1 (by rfl) (f_int T) boot_int (pa_cons (pe_op op_add (pe_op op_add (pe_op op_mul (pe_ix ix_list (pv 0) pe_int (fun _ _ => rfl)) pe_int) (pv 2)) pe_int) pa_nil)) pe_int) (pg_sub (pv 0) pe_int set_list))
        (pss_one (ps_if (pt_cmpR op_ge (pv 2) (pe_op op_pow pe_int pe_int) (nomark _)) (pss_one (ps_asg (pv 2) (pg_sub (pv 0) pe_int set_list))) pss_nil))))) pss_nil)
      (pss_cons (ps_if (pt_cmpR op_gt (pe_ix ix_list (pv 0) pe_int (fun _ _ => rfl)) pe_int (nomark _))
        (pss_cons (ps_set (i := 3) nd rfl (Or.inl rfl) (pe_op op_mod (pe_callTy call_int1 (by rfl) (f_int T) boot_int (pa_cons (pe_ix ix_list (pv 0) pe_int (fun _ _ => rfl)) pa_nil)) (pv 1)))
        (pss_cons (ps_asg (pe_op op_fdiv (pe_ix ix_list (pv 0) pe_int (fun _ _ => rfl)) (pv 1)) (pg_sub (pv 0) pe_int set_list))
        (pss_one (ps_ret (pv 3))))) pss_nil)
      (pss_cons (ps_asg (pe_op op_add (pe_ix ix_list (pv 0) pe_int (fun _ _ => rfl)) pe_int) (pg_sub (pv 0) pe_int set_list))
      (pss_cons (ps_set (i := 4) nd rfl (Or.inl rfl) (pe_op op_mod (pe_callTy call_int1 (by rfl) (f_int T) boot_int (pa_cons (pe_op op_mul (pe_callTy call_int1 (by rfl) (f_int T) boot_int (pa_cons (pe_op op_add (pe_ix ix_list (pv 0) pe_int (fun _ _ => rfl)) (pe_op op_mul pe_int (pe_ix ix_list (pv 0) pe_int (fun _ _ => rfl)))) pa_nil)) pe_int) pa_nil)) pe_int))
      (pss_cons (ps_set (i := 4) nd rfl (Or.inl rfl) (pe_op op_mod (pe_callTy call_int1 (by rfl) (f_int T) boot_int (pa_cons (pe_op op_mul (pv 4) (pe_op op_add (pe_op op_fdiv (pv 4) pe_int) pe_int)) pa_nil)) pe_int))
      (pss_cons (ps_set (i := 4) nd rfl (Or.inl rfl) (pe_op op_mod (pe_callTy call_int1 (by rfl) (f_int T) boot_int (pa_cons (pe_op op_mul (pv 4) (pe_op op_add (pe_op op_fdiv (pv 4) pe_int) pe_int)) pa_nil)) pe_int))
      (pss_one (ps_ret (pe_op op_mod (pe_callTy call_int1 (by rfl) (f_int T) boot_int (pa_cons (pe_op op_fdiv (pv 4) pe_int) pa_nil)) (pv 1)))))))))), ?_⟩
    obtain ⟨cs, a, l, sd, tn, h1, h2, h3, h4, h5, h6⟩ := id hh
    have hne := HandAt.ne h1 h2
    obtain ⟨k, rfl⟩ : ∃ k : Nat, a = k := ⟨a.toNat, (Int.toNat_of_nonneg h5).symm⟩
    refine ⟨_, rfl, h, _, 2, _, rfl, rfl, SqL.of h1, rfl, rfl, _, rfl, ?_⟩
    by_cases hl0 : l = 0
    case' neg =>
      rw [decide_eq_false (show ¬ V.int l = V.int 0 from fun z => hl0 (by injection z))]
      refine iteF ?_
      have hk := hh
      have kb := But.refl h H
    case' pos =>
      rw [decide_eq_true (show V.int l = V.int 0 by rw [hl0])]
      refine iteT ?_
      refine ⟨_, rfl, h, _, 1, _, rfl, rfl, SqL.of h1, rfl, _, rfl, h, _, 0, _, rfl, rfl, SqL.of h1, rfl, _, _, rfl, .inl ⟨_, SqL.of h2, rfl⟩, _, _, rfl, rfl, _, rfl, ?_⟩
      refine ite2 (fun ha => ?_) (fun ha => ?_)
    case' pos.refine_2 =>
      have hk := hh
      have kb := But.refl h H
    case' pos.refine_1 =>
      have ha2 : k < cs.length := by
        have := of_decide_eq_true ha
        rw [List.length_map] at this
        omega
      have ek : (cs.map V.int)[k]? = some (.int cs[k]) := by
        rw [List.getElem?_map, List.getElem?_eq_getElem ha2]
        rfl
      have hc0 : 0 ≤ cs[k] := h4 _ (List.getElem_mem ha2)
      refine ⟨_, rfl, h, _, 0, _, rfl, rfl, SqL.of h1, rfl, _, rfl, h, _, 1, _, rfl, rfl, SqL.of h1, rfl, ca, _, _, _, rfl, rfl, SqL.of h2, atI_nat ek, ?_⟩
      refine ⟨_, rfl, h, _, 1, _, rfl, rfl, SqL.of h1, rfl, _, _, rfl, rfl, _, rfl, h, _, 1, 1, rfl, rfl, h1, rfl, ?_⟩
      refine ⟨_, rfl, h, _, 3, _, rfl, rfl, SqL.of upd_same, rfl, _, _, rfl, rfl, .inr ⟨by decide, by decide⟩, _, rfl, _, _, rfl, rfl, _, _, rfl, rfl, .inl ⟨_, rfl, _, _, rfl, rfl, (by show (0 : Int) < _; decide), _, rfl, h, _, 3, 3, rfl, rfl, upd_same, rfl, ?_⟩⟩
      refine ⟨_, rfl, _, _, rfl, rfl, ⟨by decide, by decide, by decide⟩, _, _, rfl, rfl, _, rfl, ?_⟩
      refine ite2 (fun hg => ?_) (fun hg => ?_)
    case' pos.refine_1.refine_2 =>
      have hk : HandAt ca (upd (upd H h (.lst [.ref ca, .int ((k : Int) + 1), .int l, .int sd, .int tn])) h (.lst [.ref ca, .int ((k : Int) + 1), .int l, .int ((sd * 69621 + cs[k] + 11) % 2147483629), .int tn])) h :=
        ⟨cs, _, l, _, tn, upd_same, by rw [upd_ne hne, upd_ne hne]; exact h2, h3, h4, by omega, h6⟩
      have kb : But h H (upd (upd H h (.lst [.ref ca, .int ((k : Int) + 1), .int l, .int sd, .int tn])) h (.lst [.ref ca, .int ((k : Int) + 1), .int l, .int ((sd * 69621 + cs[k] + 11) % 2147483629), .int tn])) := but_upd.trans but_upd
    case' pos.refine_1.refine_1 =>
      refine ⟨_, rfl, _, rfl, h, _, 2, 2, rfl, rfl, upd_same, rfl, ?_⟩
      have hk : HandAt ca (upd (upd (upd H h (.lst [.ref ca, .int ((k : Int) + 1), .int l, .int sd, .int tn])) h (.lst [.ref ca, .int ((k : Int) + 1), .int l, .int ((sd * 69621 + cs[k] + 11) % 2147483629), .int tn])) h (.lst [.ref ca, .int ((k : Int) + 1), .int cs[k], .int ((sd * 69621 + cs[k] + 11) % 2147483629), .int tn])) h :=
        ⟨cs, _, cs[k], _, tn, upd_same, by rw [upd_ne hne, upd_ne hne, upd_ne hne]; exact h2, h3, h4, by omega, hc0⟩
      have kb : But h H (upd (upd (upd H h (.lst [.ref ca, .int ((k : Int) + 1), .int l, .int sd, .int tn])) h (.lst [.ref ca, .int ((k : Int) + 1), .int l, .int ((sd * 69621 + cs[k] + 11) % 2147483629), .int tn])) h (.lst [.ref ca, .int ((k : Int) + 1), .int cs[k], .int ((sd * 69621 + cs[k] + 11) % 2147483629), .int tn])) := (but_upd.trans but_upd).trans but_upd
    all_goals
      obtain ⟨cs1, a1, l1, sd1, tn1, g1, g2, g3, g4, g5, g6⟩ := hk
      have gne := HandAt.ne g1 g2
      refine ⟨_, rfl, h, _, 2, _, rfl, rfl, SqL.of g1, rfl, _, _, rfl, rfl, _, rfl, ?_⟩
      refine ite2 (fun hc => ?_) (fun hc => ?_)
      · refine ⟨_, rfl, h, _, 2, _, rfl, rfl, SqL.of g1, rfl, .inl ⟨_, rfl, _, rfl, _, _, rfl, rfl, hn0, _, rfl, h, _, 2, _, rfl, rfl, SqL.of g1, rfl, _, rfl, _, _, rfl, rfl, ⟨hn0, hn1⟩, _, rfl, h, _, 2, 2, rfl, rfl, g1, rfl, _, rfl, ?_⟩⟩
        exact q _ _ (Int.emod_nonneg _ (by omega)) (Int.emod_lt_of_pos _ hn0) ⟨cs1, a1, l1 / n, sd1, tn1, upd_same, by rw [upd_ne gne]; exact g2, g3, g4, g5, Int.ediv_nonneg g6 (Int.le_of_lt hn0)⟩ (kb.trans but_upd)
      · refine ⟨_, rfl, h, _, 4, _, rfl, rfl, SqL.of g1, rfl, _, _, rfl, rfl, _, rfl, h, _, 4, 4, rfl, rfl, g1, rfl, ?_⟩
        refine ⟨_, rfl, h, _, 3, _, rfl, rfl, SqL.of upd_same, rfl, _, rfl, h, _, 4, _, rfl, rfl, SqL.of upd_same, rfl, _, _, rfl, rfl, .inl ⟨by decide, by decide⟩, _, _, rfl, rfl, .inl ⟨_, rfl, _, _, rfl, rfl, .inr ⟨by decide, by decide⟩, .inl ⟨_, rfl, _, _, rfl, rfl, (by show (0 : Int) < _; decide), ?_⟩⟩⟩
        refine ⟨_, rfl, _, rfl, _, _, rfl, rfl, ⟨by decide, by decide⟩, _, _, rfl, rfl, _, _, rfl, rfl, .inl ⟨Int.lt_of_lt_of_le (by decide) (Int.emod_nonneg _ (by decide)), Int.lt_trans (Int.emod_lt_of_pos _ (by decide)) (by decide)⟩, .inl ⟨_, rfl, _, _, rfl, rfl, (by show (0 : Int) < _; decide), ?_⟩⟩
        refine ⟨_, rfl, _, rfl, _, _, rfl, rfl, ⟨by decide, by decide⟩, _, _, rfl, rfl, _, _, rfl, rfl, .inl ⟨Int.lt_of_lt_of_le (by decide) (Int.emod_nonneg _ (by decide)), Int.lt_trans (Int.emod_lt_of_pos _ (by decide)) (by decide)⟩, .inl ⟨_, rfl, _, _, rfl, rfl, (by show (0 : Int) < _; decide), ?_⟩⟩
        refine ⟨_, rfl, _, _, rfl, rfl, ⟨by decide, by decide⟩, .inl ⟨_, rfl, _, rfl, _, _, rfl, rfl, hn0, ?_⟩⟩
        exact q _ _ (Int.emod_nonneg _ (by omega)) (Int.emod_lt_of_pos _ hn0) ⟨cs1, a1, l1, sd1, _, upd_same, by rw [upd_ne gne]; exact g2, g3, g4, g5, g6⟩ (kb.trans but_upd)
end
end Fp

set_option Elab.async false
set_option linter.all false
set_option maxRecDepth 100000
set_option maxHeartbeats 4000000
namespace Fp
open PySem PySem.Spec PyProof.Rows L2
/-! ### the law's own reckoning with tables -/
def putM (c : Int) (l : Tb) (x : Str) (n : Int) : Tb := if (num l x + n) % c = 0 then dropT l x else putT l x ((num l x + n) % c)
def plusM (c : Int) (l1 l2 : Tb) (f : Int) : Tb := l2.foldl (fun acc p => putM c acc p.1 (f * p.2)) l1
def prodM (c : Int) (l1 l2 : Tb) : Tb := l1.foldl (fun acc p => l2.foldl (fun acc q => putM c acc (p.1 ++ q.1) (p.2 * q.2)) acc) []
theorem num_eq (l : Tb) (x : Str) : (valV (kv l) (Sum.inr x : Key)).getD (.int 0) = .int (num l x) := by
  cases e : has l x with
  | true => rw [valV_yes e] <;> rfl
  | false =>
    obtain ⟨h1, h2⟩ := valV_no e
    rw [h1, h2] <;> rfl
theorem dropT_no {l : Tb} {x : Str} (h : has l x = false) : dropT l x = l := by
  unfold dropT
  rw [List.filter_eq_self]
  intro p hp
  simp only [decide_eq_true_eq]
  intro e
  have : has l x = true := has_iff.mpr (List.mem_map.mpr ⟨p, hp, e⟩)
  rw [h] at this
  cases this
theorem len_putM (c : Int) (l : Tb) (x : Str) (n : Int) : (putM c l x n).length ≤ l.length + 1 := by
  unfold putM
  split
  · exact Nat.le_succ_of_le (List.length_filter_le _ _)
  · exact len_put _ _ _
theorem vt_putM {c : Int} {m k : Nat} {l : Tb} (hc : 0 < c) (hv : VT c m k l) {x : Str} (hx : xyz x) (hl : x.length ≤ m) (n : Int) : VT c m (k + 1) (putM c l x n) := by
  have h1 := Int.emod_nonneg (num l x + n) (show c ≠ 0 by omega)
  have h2 := Int.emod_lt_of_pos (num l x + n) hc
  refine ⟨?_, fun p hp => ?_, fun p hp => ?_, Nat.le_trans (len_putM c l x n) (Nat.succ_le_succ hv.ln)⟩
  · unfold putM
    split
    · exact nd_drop hv.nd x
    · exact nd_put hv.nd x _
  · unfold putM at hp
    split at hp
    · exact hv.nu p (List.mem_filter.mp hp).1
    · rename_i h0
      rcases mem_put hp with rfl | hp
      · exact ⟨by show 1 ≤ (num l x + n) % c; omega, h2⟩
      · exact hv.nu p hp
  · unfold putM at hp
    split at hp
    · exact hv.wd p (List.mem_filter.mp hp).1
    · rcases mem_put hp with rfl | hp
      · exact ⟨hx, hl⟩
      · exact hv.wd p hp
theorem vt_plusM {c : Int} {m k1 k2 : Nat} {l1 l2 : Tb} (hc : 0 < c) (h1 : VT c m k1 l1) (h2 : VT c m k2 l2) (f : Int) : VT c m (k1 + k2) (plusM c l1 l2 f) := by
  have key : ∀ (r : Tb) (acc : Tb) (k : Nat), (∀ p ∈ r, xyz p.1 ∧ p.1.length ≤ m) → VT c m k acc → VT c m (k + r.length) (r.foldl (fun acc p => putM c acc p.1 (f * p.2)) acc) := by
    intro r
    induction r with
    | nil => intro acc k _ h; exact h
    | cons p r ih =>
      intro acc k hw h
      have hp := hw p List.mem_cons_self
      have := ih _ (k + 1) (fun q hq => hw q (List.mem_cons_of_mem _ hq)) (vt_putM hc h hp.1 hp.2 (f * p.2))
      rw [List.length_cons, List.foldl_cons]
      exact this.mono (Nat.le_refl _) (by omega)
  exact (key l2 l1 k1 h2.wd h1).mono (Nat.le_refl _) (Nat.add_le_add_left h2.ln _)
theorem xyz_app {x y : Str} (hx : xyz x) (hy : xyz y) : xyz (x ++ y) := by
  intro c hc
  have e : (x ++ y).cps.toList = x.cps.toList ++ y.cps.toList := by
    show (x.cps ++ y.cps).toList = _
    simp
  rw [e] at hc
  rcases List.mem_append.mp hc with hc | hc
  · exact hx c hc
  · exact hy c hc
theorem len_app (x y : Str) : (x ++ y).length = x.length + y.length := by
  show (x.cps ++ y.cps).size = _
  simp [Str.length]
theorem vt_inner {c : Int} {m1 m2 : Nat} (hc : 0 < c) {p : Str × Int} (hp : xyz p.1 ∧ p.1.length ≤ m1) : ∀ (r : Tb) (acc : Tb) (k : Nat), (∀ q ∈ r, xyz q.1 ∧ q.1.length ≤ m2) → VT c (m1 + m2) k acc →
    VT c (m1 + m2) (k + r.length) (r.foldl (fun acc q => putM c acc (p.1 ++ q.1) (p.2 * q.2)) acc) := by
  intro r
  induction r with
  | nil => intro acc k _ h; exact h
  | cons q r ih =>
    intro acc k hw h
    have hq := hw q List.mem_cons_self
    have := ih _ (k + 1) (fun q hq => hw q (List.mem_cons_of_mem _ hq)) (vt_putM hc h (xyz_app hp.1 hq.1) (by rw [len_app]; exact Nat.add_le_add hp.2 hq.2) (p.2 * q.2))
    rw [List.length_cons, List.foldl_cons]
    exact this.mono (Nat.le_refl _) (by omega)
theorem vt_outer {c : Int} {m1 m2 : Nat} (hc : 0 < c) {l2 : Tb} (h2 : ∀ q ∈ l2, xyz q.1 ∧ q.1.length ≤ m2) : ∀ (r : Tb) (acc : Tb) (k : Nat), (∀ q ∈ r, xyz q.1 ∧ q.1.length ≤ m1) → VT c (m1 + m2) k acc →
    VT c (m1 + m2) (k + r.length * l2.length) (r.foldl (fun acc p => l2.foldl (fun acc q => putM c acc (p.1 ++ q.1) (p.2 * q.2)) acc) acc) := by
  intro r
  induction r with
  | nil => intro acc k _ h; simpa using h
  | cons q r ih =>
    intro acc k hw h
    have := ih _ (k + l2.length) (fun q hq => hw q (List.mem_cons_of_mem _ hq)) (vt_inner hc (hw q List.mem_cons_self) l2 acc k h2 h)
    rw [List.length_cons, List.foldl_cons]
    exact this.mono (Nat.le_refl _) (by rw [Nat.add_mul]; omega)
theorem vt_nil (c : Int) (m : Nat) : VT c m 0 [] := ⟨List.nodup_nil, fun p hp => (by cases hp), fun p hp => (by cases hp), Nat.le_refl _⟩
theorem vt_prodM {c : Int} {m1 m2 k1 k2 : Nat} {l1 l2 : Tb} (hc : 0 < c) (h1 : VT c m1 k1 l1) (h2 : VT c m2 k2 l2) : VT c (m1 + m2) (k1 * k2) (prodM c l1 l2) :=
  (vt_outer hc h2.wd l1 [] 0 h1.wd (vt_nil c _)).mono (Nat.le_refl _) (by rw [Nat.zero_add]; exact Nat.mul_le_mul h1.ln h2.ln)
theorem VT.of {c : Int} {m k m' k' : Nat} {l : Tb} (h : VT c m k l) (hm : ∀ p ∈ l, p.1.length ≤ m') (hk : l.length ≤ k') : VT c m' k' l := ⟨h.nd, h.nu, fun p hp => ⟨(h.wd p hp).1, hm p hp⟩, hk⟩
section
variable {P : Program} {w : World} {K : PySem.W.Frag} {mg : Str → Option Value} {base : Heap}
def spPut : Sp := fun vs H Q _ => ∃ (c : Int) (d : Addr) (x : Str) (n : Int) (l : Tb), vs = [.int c, .ref d, .str x, .int n] ∧ 0 < c ∧ H d = some (.dK (kv l)) ∧ l.length ≤ 1000000 ∧
  ∀ H', But d H H' → H' d = some (.dK (kv (putM c l x n))) → Q .non H'
abbrev nPut : List Str := ["_law_clock_here", "_law_bag", "_law_word_here", "_law_number", "_law_total"]
theorem sc_put : FnScope nPut ["_law_clock_here", "_law_bag", "_law_word_here", "_law_number"] (defScope s__law_put) := ⟨rfl, rfl, rfl, by decide +kernel, rfl, by decide +kernel, by decide +kernel⟩
theorem ok_put (T : Top K mg) : Ok P w K mg base 1 "_law_put" ["_law_clock_here", "_law_bag", "_law_word_here", "_law_number"] spPut := by
  obtain ⟨fd, F⟩ := fn__law_put T
  refine ⟨⟨fd, ?_, F.bindsN fun _ _ _ _ _ _ us hl => match us, hl with | [_, _, _, _], _ => rfl⟩, g__law_put T, F.kp⟩
  refine F.ok sc_put (fun vs H Q E h => ?_) (fun cdv A outer s H vs Q E hr h => ?_)
  · obtain ⟨c, d, x, n, l, rfl, _⟩ := h
    rfl
  · obtain ⟨c, d, x, n, l, rfl, hc, hd, hl, q⟩ := h
    have nd := sc_put.nd
    have hu := hu_of hr
    have hs : sizeLine = 16777216 := sizeLine_eq
    refine ⟨_, PSs.nox (pss_cons (ps_set (i := 4) nd rfl (Or.inl rfl) (pe_op op_mod (pe_callTy call_int1 (by rfl) (f_int T) boot_int (pa_cons (pe_op op_add (pe_dget2 hu (pv 1) (pv 2) pe_int ⟨rfl, rfl, rfl, rfl⟩) (pv 3)) pa_nil)) (pv 0)))
      (pss_one (ps_if (pt_cmpR op_eq (pv 4) pe_int (nomark _)) (pss_one (ps_expr (pe_dpop2 (pv 1) (pv 2) pe_int ⟨rfl, rfl, rfl, rfl⟩))) (pss_one (ps_dput hu (pv 1) (pv 2) (pv 4) rfl))))), ?_⟩
    refine ⟨_, rfl, d, rfl, .inl ⟨_, .inl hd⟩, _, rfl, _, DGet.k (k := Sum.inr x) hd, ?_⟩
    rw [num_eq]
    refine ⟨_, rfl, _, _, rfl, rfl, .inl ⟨_, rfl, _, rfl, _, _, rfl, rfl, hc, ?_⟩⟩
    refine ⟨_, rfl, rfl, _, rfl, ?_⟩
    by_cases h0 : (num l x + n) % c = 0
    · rw [decide_eq_true (show V.int ((num l x + n) % c) = V.int 0 by rw [h0])]
      refine iteT ?_
      refine ⟨_, rfl, d, rfl, .inl ⟨_, .inl hd⟩, _, rfl, kv l, Sum.inr x, hd, rfl, fun v hv => ?_, fun hv => ?_⟩
      · refine q _ but_upd ?_
        rw [upd_same, dropK_kv]
        unfold putM
        rw [if_pos h0]
      · refine q _ (But.refl _ _) ?_
        have e : has l x = false := by
          cases z : has l x with
          | false => rfl
          | true =>
            rw [valV_yes z] at hv
            cases hv
        unfold putM
        rw [if_pos h0, dropT_no e]
        exact hd
    · rw [decide_eq_false (show ¬ V.int ((num l x + n) % c) = V.int 0 from fun z => h0 (by injection z))]
      refine iteF ?_
      refine ⟨_, rfl, _, rfl, _, rfl, d, _, rfl, DPut.k (k := Sum.inr x) hd (by rw [kv_len]; omega), ?_⟩
      refine q _ but_upd ?_
      rw [upd_same, putK_kv]
      unfold putM
      rw [if_neg h0]
def spPlus : Sp := fun vs H Q _ => ∃ (c : Int) (d1 d2 : Addr) (f : Int) (l1 l2 : Tb), vs = [.int c, .ref d1, .ref d2, .int f] ∧ 0 < c ∧ c ≤ 7 ∧ H d1 = some (.dK (kv l1)) ∧ H d2 = some (.dK (kv l2)) ∧ Nd l2 ∧ (∀ p ∈ l2, 1 ≤ p.2 ∧ p.2 < c) ∧ l1.length ≤ 100000 ∧ l2.length ≤ 100000 ∧
  ∀ H' d, Same H H' → H d = none → H' d = some (.dK (kv (plusM c l1 l2 f))) → Q (.ref d) H'
abbrev nPlus : List Str := ["_law_clock_here", "_law_one", "_law_other", "_law_factor", "_law_found", "_law_word_here"]
theorem sc_plus : FnScope nPlus ["_law_clock_here", "_law_one", "_law_other", "_law_factor"] (defScope s__law_plus) := ⟨rfl, rfl, rfl, by decide +kernel, rfl, by decide +kernel, by decide +kernel⟩
theorem len_plusM (c f : Int) : ∀ (l2 l1 : Tb), (plusM c l1 l2 f).length ≤ l1.length + l2.length
  | [], l1 => Nat.le_refl _
  | p :: r, l1 => by
    have h1 := len_plusM c f r (putM c l1 p.1 (f * p.2))
    have h2 := len_putM c l1 p.1 (f * p.2)
    have e : plusM c l1 (p :: r) f = plusM c (putM c l1 p.1 (f * p.2)) r f := rfl
    rw [e, List.length_cons]
    omega
theorem plusM_take (c f : Int) (l1 l2 : Tb) {i : Nat} {p : Str × Int} (e : l2[i]? = some p) : plusM c l1 (l2.take (i + 1)) f = putM c (plusM c l1 (l2.take i) f) p.1 (f * p.2) := by
  unfold plusM
  rw [List.take_add_one, e, List.foldl_append]
  rfl
theorem ok_plus (T : Top K mg) : Ok P w K mg base 2 "_law_plus" ["_law_clock_here", "_law_one", "_law_other", "_law_factor"] spPlus := by
  obtain ⟨fd, F⟩ := fn__law_plus T
  refine ⟨⟨fd, ?_, F.bindsN fun _ _ _ _ _ _ us hl => match us, hl with | [_, _, _, _], _ => rfl⟩, g__law_plus T, F.kp⟩
  refine F.ok sc_plus (fun vs H Q E h => ?_) (fun cdv A outer s H vs Q E hr h => ?_)
  · obtain ⟨c, d1, d2, f, l1, l2, rfl, _⟩ := h
    rfl
  · obtain ⟨c, d1, d2, f, l1, l2, rfl, hc, hc7, h1, h2, hnd, hnu, hl1, hl2, q⟩ := h
    have nd := sc_plus.nd
    have hu := hu_of hr
    have hs : sizeLine = 16777216 := sizeLine_eq
    refine ⟨_, PSs.nox (pss_cons (ps_set (i := 4) nd rfl (Or.inl rfl) (pe_callTy call_dictD (by rfl) (f_dict T) (by decide +kernel) (pa_cons (pv 1) pa_nil)))
      (pss_cons (ps_lock (ps_for PassesOwn.never rfl (pi_keys (pv 2)) (pg_name (i := 5) nd rfl (Or.inl rfl))
        (pss_one (ps_expr (pc (ok_put T) hr (pa_cons (pv 0) (pa_cons (pv 4) (pa_cons (pv 5) (pa_cons (pe_op op_mul (pv 3) (pe_dget hu (pv 2) (pv 5) (fun _ _ => rfl))) pa_nil)))))))))
      (pss_one (ps_ret (pv 4))))), ?_⟩
    refine ⟨_, rfl, d1, kv l1, rfl, .inl h1, fun F0 hF => ?_⟩
    have n2F : d2 ≠ F0 := ne_of_none h2 hF
    refine ⟨d2, .dK (kv l2), by rw [upd_ne n2F]; exact h2, trivial, fun od => ?_⟩
    refine ⟨_, rfl, d2, od, rfl, .inl ⟨kv l2, upd_same, ?_⟩⟩
    refine for_it walk_keys (fun i σ H' => (∃ v, σ = [some (.int c), some (.ref d1), some (.ref d2), some (.int f), some (.ref F0), v]) ∧ H' F0 = some (.dK (kv (plusM c l1 (l2.take i) f))) ∧ But d2 H H' ∧ H' d2 = some (.frz od (.dK (kv l2))))
      ⟨⟨none, rfl⟩, ?_, ?_, upd_same⟩ (fun i σ H' _ hP => hP.2.2.2) ?_ ?_
    · rw [upd_ne n2F.symm, upd_same]
      rfl
    · intro b o e n
      rw [upd_ne n, upd_ne (ne_of_none e hF)]
      exact e
    · rintro i x σ H1 H2 hi ⟨⟨v, rfl⟩, p1, p2, p3⟩ ⟨rfl, k, v', e, rfl⟩
      obtain ⟨p, ep, rfl, rfl⟩ := kv_at e
      have hp : p ∈ l2 := List.mem_of_getElem? ep
      have hn := hnu p hp
      refine ⟨_, rfl, _, rfl, _, rfl, _, rfl, _, rfl, _, rfl, d2, .int p.2, rfl, .inl ⟨kv l2, Sum.inr p.1, .inr ⟨od, p3⟩, rfl, ?_⟩, ?_⟩
      · rw [valV_yes (has_of ep), num_of hnd ep]
      · refine ⟨_, _, rfl, rfl, .inr ⟨by omega, by omega⟩, ?_⟩
        refine ⟨c, F0, p.1, f * p.2, plusM c l1 (l2.take i) f, rfl, hc, p1, ?_, fun H3 k3 e3 => ?_⟩
        · have := len_plusM c f (l2.take i) l1
          rw [List.length_take] at this
          omega
        · refine ⟨⟨_, rfl⟩, ?_, ?_, ?_⟩
          · rw [plusM_take c f l1 l2 ep]
            exact e3
          · intro b o z n
            exact k3 b o (p2 b o z n) (ne_of_none z hF)
          · exact k3 _ _ p3 n2F
    · rintro σ H' ⟨⟨v, rfl⟩, p1, p2, p3⟩
      rw [kv_len, List.take_length] at p1
      refine ⟨p3, ?_⟩
      refine ⟨_, rfl, ?_⟩
      refine q _ F0 (fun b o e => ?_) hF (by rw [upd_ne n2F.symm]; exact p1)
      by_cases n : b = d2
      · rw [n, upd_same, ← h2, ← n, e]
      · rw [upd_ne n]
        exact p2 b o e n
end
end Fp

set_option Elab.async false
set_option linter.all false
set_option maxRecDepth 100000
set_option maxHeartbeats 4000000
namespace Fp
open PySem PySem.Spec PyProof.Rows L2
theorem vt_len {c : Int} {m k : Nat} {l : Tb} (h : VT c m k l) : l.length ≤ k := h.ln
theorem inner_take (c : Int) (acc l2 : Tb) (p : Str × Int) {j : Nat} {q : Str × Int} (e : l2[j]? = some q) :
    (l2.take (j + 1)).foldl (fun acc q => putM c acc (p.1 ++ q.1) (p.2 * q.2)) acc = putM c ((l2.take j).foldl (fun acc q => putM c acc (p.1 ++ q.1) (p.2 * q.2)) acc) (p.1 ++ q.1) (p.2 * q.2) := by
  rw [List.take_add_one, e, List.foldl_append]
  rfl
theorem prodM_take (c : Int) (l1 l2 : Tb) {i : Nat} {p : Str × Int} (e : l1[i]? = some p) : prodM c (l1.take (i + 1)) l2 = l2.foldl (fun acc q => putM c acc (p.1 ++ q.1) (p.2 * q.2)) (prodM c (l1.take i) l2) := by
  unfold prodM
  rw [List.take_add_one, e, List.foldl_append]
  rfl
theorem len_inner (c : Int) (p : Str × Int) : ∀ (r acc : Tb), (r.foldl (fun acc q => putM c acc (p.1 ++ q.1) (p.2 * q.2)) acc).length ≤ acc.length + r.length
  | [], acc => Nat.le_refl _
  | q :: r, acc => by
    have h1 := len_inner c p r (putM c acc (p.1 ++ q.1) (p.2 * q.2))
    have h2 := len_putM c acc (p.1 ++ q.1) (p.2 * q.2)
    rw [List.foldl_cons, List.length_cons]
    omega
theorem len_prodM (c : Int) (l2 : Tb) : ∀ (r acc : Tb), (r.foldl (fun acc p => l2.foldl (fun acc q => putM c acc (p.1 ++ q.1) (p.2 * q.2)) acc) acc).length ≤ acc.length + r.length * l2.length
  | [], acc => by simp
  | p :: r, acc => by
    have h1 := len_prodM c l2 r (l2.foldl (fun acc q => putM c acc (p.1 ++ q.1) (p.2 * q.2)) acc)
    have h2 := len_inner c p l2 acc
    rw [List.foldl_cons, List.length_cons, Nat.add_mul]
    omega
section
variable {P : Program} {w : World} {K : PySem.W.Frag} {mg : Str → Option Value} {base : Heap}
def spProd : Sp := fun vs H Q _ => ∃ (c : Int) (d1 d2 : Addr) (m1 m2 : Nat) (l1 l2 : Tb), vs = [.int c, .ref d1, .ref d2] ∧ 0 < c ∧ c ≤ 7 ∧ d1 ≠ d2 ∧ H d1 = some (.dK (kv l1)) ∧ H d2 = some (.dK (kv l2)) ∧ VT c m1 1000 l1 ∧ VT c m2 1000 l2 ∧ m1 ≤ 1000 ∧ m2 ≤ 1000 ∧
  ∀ H' d, Same H H' → H d = none → H' d = some (.dK (kv (prodM c l1 l2))) → Q (.ref d) H'
abbrev nProd : List Str := ["_law_clock_here", "_law_one", "_law_other", "_law_found", "_law_front", "_law_back"]
theorem sc_prod : FnScope nProd ["_law_clock_here", "_law_one", "_law_other"] (defScope s__law_product) := ⟨rfl, rfl, rfl, by decide +kernel, rfl, by decide +kernel, by decide +kernel⟩
theorem ok_prod (T : Top K mg) : Ok P w K mg base 2 "_law_product" ["_law_clock_here", "_law_one", "_law_other"] spProd := by
  obtain ⟨fd, F⟩ := fn__law_product T
  refine ⟨⟨fd, ?_, F.bindsN fun _ _ _ _ _ _ us hl => match us, hl with | [_, _, _], _ => rfl⟩, g__law_product T, F.kp⟩
  refine F.ok sc_prod (fun vs H Q E h => ?_) (fun cdv A outer s H vs Q E hr h => ?_)
  · obtain ⟨c, d1, d2, m1, m2, l1, l2, rfl, _⟩ := h
    rfl
  · obtain ⟨c, d1, d2, m1, m2, l1, l2, rfl, hc, hc7, n12, h1, h2, v1, v2, hm1, hm2, q⟩ := h
    have nd := sc_prod.nd
    have hu := hu_of hr
    have hs : sizeLine = 16777216 := sizeLine_eq
    have hl1 := v1.ln
    have hl2 := v2.ln
    refine ⟨_, PSs.nox (pss_cons (ps_set (i := 3) nd rfl (Or.inl rfl) pe_dnewK)
      (pss_cons (ps_lock (ps_for PassesOwn.never rfl (pi_keys (pv 1)) (pg_name (i := 4) nd rfl (Or.inl rfl))
        (pss_one (ps_lock (ps_for PassesOwn.never rfl (pi_keys (pv 2)) (pg_name (i := 5) nd rfl (Or.inl rfl))
          (pss_one (ps_expr (pc (ok_put T) hr (pa_cons (pv 0) (pa_cons (pv 3) (pa_cons (pe_op op_add_str (pv 4) (pv 5)) (pa_cons (pe_op op_mul (pe_dget hu (pv 1) (pv 4) (fun _ _ => rfl)) (pe_dget hu (pv 2) (pv 5) (fun _ _ => rfl))) pa_nil))))))))))))
      (pss_one (ps_ret (pv 3))))), ?_⟩
    refine fun F0 hF => ?_
    have n1F : d1 ≠ F0 := ne_of_none h1 hF
    have n2F : d2 ≠ F0 := ne_of_none h2 hF
    refine ⟨d1, .dK (kv l1), by rw [upd_ne n1F]; exact h1, trivial, fun od => ?_⟩
    refine ⟨_, rfl, d1, od, rfl, .inl ⟨kv l1, upd_same, ?_⟩⟩
    refine for_it walk_keys (fun i σ H' => (∃ v u, σ = [some (.int c), some (.ref d1), some (.ref d2), some (.ref F0), v, u]) ∧ H' F0 = some (.dK (kv (prodM c (l1.take i) l2))) ∧ But d1 H H' ∧ H' d1 = some (.frz od (.dK (kv l1))))
      ⟨⟨none, none, rfl⟩, ?_, ?_, upd_same⟩ (fun i σ H' _ hP => hP.2.2.2) ?_ ?_
    · rw [upd_ne n1F.symm, upd_same]
      rfl
    · intro b o e n
      rw [upd_ne n, upd_ne (ne_of_none e hF)]
      exact e
    · rintro i x σ H1 H2 hi ⟨⟨v, u, rfl⟩, p1, p2, p3⟩ ⟨rfl, k, v', e, rfl⟩
      obtain ⟨p, ep, rfl, rfl⟩ := kv_at e
      have hp : p ∈ l1 := List.mem_of_getElem? ep
      have hil : i < l1.length := (List.getElem?_eq_some_iff.mp ep).1
      refine ⟨d2, .dK (kv l2), p2 _ _ h2 n12.symm, trivial, fun od2 => ?_⟩
      refine ⟨_, rfl, d2, od2, rfl, .inl ⟨kv l2, upd_same, ?_⟩⟩
      refine for_it walk_keys (fun j σ H' => (∃ u, σ = [some (.int c), some (.ref d1), some (.ref d2), some (.ref F0), some (.str p.1), u]) ∧ H' F0 = some (.dK (kv ((l2.take j).foldl (fun acc q => putM c acc (p.1 ++ q.1) (p.2 * q.2)) (prodM c (l1.take i) l2)))) ∧
          (∀ b o, H b = some o → b ≠ d1 → b ≠ d2 → H' b = some o) ∧ H' d1 = some (.frz od (.dK (kv l1))) ∧ H' d2 = some (.frz od2 (.dK (kv l2))))
        ⟨⟨u, rfl⟩, ?_, ?_, ?_, upd_same⟩ (fun i σ H' _ hP => hP.2.2.2.2) ?_ ?_
      · rw [upd_ne n2F.symm]
        exact p1
      · intro b o z na nb
        rw [upd_ne nb]
        exact p2 b o z na
      · rw [upd_ne n12]
        exact p3
      · rintro j x σ H3 H4 hj ⟨⟨u', rfl⟩, r1, r2, r3, r4⟩ ⟨rfl, k, v'', e', rfl⟩
        obtain ⟨q0, eq0, rfl, rfl⟩ := kv_at e'
        have hq : q0 ∈ l2 := List.mem_of_getElem? eq0
        have hn1 := v1.nu p hp
        have hn2 := v2.nu q0 hq
        have hw1 := v1.wd p hp
        have hw2 := v2.wd q0 hq
        refine ⟨_, rfl, _, rfl, _, rfl, _, rfl, _, _, rfl, rfl, by have := hw1.2; have := hw2.2; omega, ?_⟩
        refine ⟨_, rfl, _, rfl, d1, .int p.2, rfl, .inl ⟨kv l1, Sum.inr p.1, .inr ⟨od, r3⟩, rfl, by rw [valV_yes (has_of ep), num_of v1.nd ep]⟩, ?_⟩
        refine ⟨_, rfl, _, rfl, d2, .int q0.2, rfl, .inl ⟨kv l2, Sum.inr q0.1, .inr ⟨od2, r4⟩, rfl, by rw [valV_yes (has_of eq0), num_of v2.nd eq0]⟩, ?_⟩
        refine ⟨_, _, rfl, rfl, .inl ⟨by omega, by omega⟩, ?_⟩
        refine ⟨c, F0, p.1 ++ q0.1, p.2 * q0.2, _, rfl, hc, r1, ?_, fun H5 k5 e5 => ?_⟩
        · have b1 := len_inner c p (l2.take j) (prodM c (l1.take i) l2)
          have b2 := len_prodM c l2 (l1.take i) []
          have b3 : (l1.take i).length * l2.length ≤ 1000 * 1000 := Nat.mul_le_mul (by rw [List.length_take]; omega) hl2
          have b4 : (l2.take j).length ≤ 1000 := by rw [List.length_take]; omega
          have b5 : (prodM c (l1.take i) l2).length ≤ (l1.take i).length * l2.length := by
            have : (prodM c (l1.take i) l2).length ≤ ([] : Tb).length + (l1.take i).length * l2.length := b2
            simpa using this
          have b6 : (l1.take i).length ≤ 999 := by rw [List.length_take]; omega
          have b7 : (l1.take i).length * l2.length ≤ 999 * 1000 := Nat.mul_le_mul b6 hl2
          omega
        · refine ⟨⟨_, rfl⟩, ?_, ?_, k5 _ _ r3 n1F, k5 _ _ r4 n2F⟩
          · rw [inner_take c _ l2 p eq0]
            exact e5
          · intro b o z na nb
            exact k5 b o (r2 b o z na nb) (ne_of_none z hF)
      · rintro σ H3 ⟨⟨u', rfl⟩, r1, r2, r3, r4⟩
        rw [kv_len, List.take_length] at r1
        refine ⟨r4, ⟨_, _, rfl⟩, ?_, ?_, ?_⟩
        · rw [upd_ne n2F.symm, prodM_take c l1 l2 ep]
          exact r1
        · intro b o z na
          by_cases nb : b = d2
          · rw [nb, upd_same, ← h2, ← nb, z]
          · rw [upd_ne nb]
            exact r2 b o z na nb
        · rw [upd_ne n12]
          exact r3
    · rintro σ H' ⟨⟨v, u, rfl⟩, p1, p2, p3⟩
      rw [kv_len, List.take_length] at p1
      refine ⟨p3, ?_⟩
      refine ⟨_, rfl, ?_⟩
      refine q _ F0 (fun b o e => ?_) hF (by rw [upd_ne n1F.symm]; exact p1)
      by_cases n : b = d1
      · rw [n, upd_same, ← h1, ← n, e]
      · rw [upd_ne n]
        exact p2 b o e n
end
end Fp

set_option Elab.async false
set_option linter.all false
set_option maxRecDepth 100000
set_option maxHeartbeats 4000000
namespace Fp
open PySem PySem.Spec PyProof.Rows L2
theorem leIS_rk {a b : IS} (ha : a.2.1 = -(a.2.2.length : Int)) (hb : b.2.1 = -(b.2.2.length : Int)) : leIS a b = leR a.2.2 b.2.2 := by
  have e1 : enIS a = rk a.2.2 := by
    unfold enIS rk
    rw [ha]
  have e2 : enIS b = rk b.2.2 := by
    unfold enIS rk
    rw [hb]
  unfold leIS leR
  rw [PySem.W.dataLe_eq, PySem.W.dataLe_eq]
  simp only [e1, e2]
theorem sort_words {ps : List IS} (h : ∀ p ∈ ps, p.2.1 = -(p.2.2.length : Int)) : (ps.mergeSort leIS).map (·.2.2) = (ps.map (·.2.2)).mergeSort leR :=
  PySem.W.sort_maps (·.2.2) fun a ha b hb => leIS_rk (h a ha) (h b hb)
section
variable {P : Program} {w : World} {K : PySem.W.Frag} {mg : Str → Option Value} {base : Heap}
def spOrder : Sp := fun vs H Q _ => ∃ (d : Addr) (l : Tb), vs = [.ref d] ∧ H d = some (.dK (kv l)) ∧ (∀ p ∈ l, p.1.length ≤ 1000000) ∧ l.length ≤ 1000000 ∧ ∀ H' D, Same H H' → H D = none → H' D = some (.lst ((ordW l).map V.str)) → Q (.ref D) H'
abbrev nOrder : List Str := ["_law_bag", "_law_pair", "_law_word_here"]
theorem sc_order : FnScope nOrder ["_law_bag"] (defScope s__law_order) := ⟨rfl, rfl, rfl, by decide +kernel, rfl, by decide +kernel, by decide +kernel⟩
theorem ok_order (T : Top K mg) : Ok P w K mg base 2 "_law_order" ["_law_bag"] spOrder := by
  obtain ⟨fd, F⟩ := fn__law_order T
  refine ⟨⟨fd, ?_, F.bindsN fun _ _ _ _ _ _ us hl => match us, hl with | [_], _ => rfl⟩, g__law_order T, F.kp⟩
  refine F.ok sc_order (fun vs H Q E h => ?_) (fun cdv A outer s H vs Q E hr h => ?_)
  · obtain ⟨d, l, rfl, _⟩ := h
    rfl
  · obtain ⟨d, l, rfl, hd, hwl, hll, q⟩ := h
    have nd := sc_order.nd
    have hs : sizeLine = 16777216 := sizeLine_eq
    refine ⟨_, PSs.nox (pss_one (ps_ret (pe_lc (own := [("_law_pair", 1)]) (g := gName 1) (tt := tYes) rfl nd
      (pi_list (pe_callB (cr_sortIS hr) (by rfl) (f_sorted T) (by decide +kernel) (pa_cons (pe_lock (pe_lc (own := [("_law_word_here", 2)]) (g := gName 2) (tt := tYes) rfl nd (pi_keys (pv 0)) (blkOk_by (N := nOrder) (sc := defScope s__law_order) (by decide +kernel))
        (fun _ _ _ _ _ => pg_name (i := 2) nd rfl (Or.inl rfl)) (fun _ _ _ _ _ => pts_nil) (fun _ _ _ _ _ => pe_tup (pa_cons (pe_un un_neg (pe_callB call_len_str (by rfl) (f_len T) PySem.boot_len (pa_cons (pv 2) pa_nil))) (pa_cons (pv 2) pa_nil))))) pa_nil)))
      (blkOk_by (N := nOrder) (sc := defScope s__law_order) (by decide +kernel)) (fun _ _ _ _ _ => pg_name (i := 1) nd rfl (Or.inl rfl)) (fun _ _ _ _ _ => pts_nil) (fun _ _ _ _ _ => pe_ix (r := rIxT K) ix_tup (pv 1) pe_int (fun _ _ => rfl))))), ?_⟩
    refine ⟨d, _, hd, trivial, fun od => ?_⟩
    refine ⟨_, rfl, d, od, rfl, .inl ⟨kv l, upd_same, fun D hD => ?_⟩⟩
    have nD : D ≠ d := fun e => by
      rw [e, upd_same] at hD
      cases hD
    have hD0 : H D = none := by
      rw [upd_ne nD] at hD
      exact hD
    refine lc_it walk_keys (fun i H' => (∃ ps : List IS, H' D = some (.lst (ps.map fun p => V.ref p.1)) ∧ ps.map (·.2.2) = (l.take i).map (·.1) ∧ (∀ p ∈ ps, H' p.1 = some (.tup [.int p.2.1, .str p.2.2])) ∧ ∀ p ∈ ps, p.2.1 = -(p.2.2.length : Int)) ∧ But d H H' ∧ H' d = some (.frz od (.dK (kv l))))
      ⟨⟨[], upd_same, rfl, fun p hp => (by cases hp), fun p hp => (by cases hp)⟩, ?_, ?_⟩ (fun i H' _ hP => hP.2.2) ?_ ?_
    · intro b o e n
      rw [upd_ne (ne_of_none e hD0), upd_ne n]
      exact e
    · rw [upd_ne nD.symm]
      exact upd_same
    · rintro i x H1 H2 hi ⟨⟨ps, p1, p2, p3, p4⟩, p5, p6⟩ ⟨rfl, k, v, e, rfl⟩
      obtain ⟨p, ep, rfl, rfl⟩ := kv_at e
      have hp : p ∈ l := List.mem_of_getElem? ep
      have hpl := hwl p hp
      rw [kv_len] at hi
      have hpsl : ps.length = i := by
        have := congrArg List.length p2
        rw [List.length_map, List.length_map, List.length_take] at this
        omega
      refine ⟨rfl, ?_⟩
      refine ⟨_, rfl, _, rfl, by omega, _, rfl, _, rfl, ?_⟩
      refine ⟨by show 2 ≤ sizeLine; omega, fun t ht => ?_⟩
      have ntD : D ≠ t := ne_of_none p1 ht
      have ntd : d ≠ t := ne_of_none p6 ht
      refine ⟨_, by rw [upd_ne ntD]; exact p1, by rw [List.length_map]; omega, ⟨ps ++ [(t, (-(p.1.length : Int), p.1))], ?_, ?_, ?_, ?_⟩, ?_, ?_⟩
      · rw [upd_same, List.map_append]
        rfl
      · rw [List.map_append, p2, List.take_add_one, ep, List.map_append]
        rfl
      · intro r hr
        rcases List.mem_append.mp hr with hr | hr
        · have := p3 r hr
          rw [upd_ne (ne_of this p1 (by intro z; cases z)), upd_ne (ne_of_none this ht)]
          exact this
        · have : r = (t, (-(p.1.length : Int), p.1)) := by simpa using hr
          subst this
          rw [upd_ne ntD.symm]
          exact upd_same
      · intro r hr
        rcases List.mem_append.mp hr with hr | hr
        · exact p4 r hr
        · have : r = (t, (-(p.1.length : Int), p.1)) := by simpa using hr
          subst this
          rfl
      · intro b o z n
        rw [upd_ne (ne_of_none z hD0), upd_ne (ne_of_none (p5 b o z n) ht)]
        exact p5 b o z n
      · rw [upd_ne nD.symm, upd_ne ntd]
        exact p6
    · rintro H' ⟨⟨ps, p1, p2, p3, p4⟩, p5, p6⟩
      rw [kv_len, List.take_length] at p2
      refine ⟨p6, D, ps, rfl, .inl (.inl ?_), fun p hp => ?_, fun S hS => ?_⟩
      · rw [upd_ne nD]
        exact p1
      · rw [upd_ne (ne_of (p3 p hp) p6 (by intro z; cases z))]
        exact p3 p hp
      · have hS' : H' S = none := by
          by_cases z : S = d
          · rw [z, upd_same] at hS
            cases hS
          · rw [upd_ne z] at hS
            exact hS
        have base : Same H (upd H' d (.dK (kv l))) := fun b o z => by
          by_cases n : b = d
          · rw [n, upd_same, ← hd, ← n, z]
          · rw [upd_ne n]
            exact p5 b o z n
        have hS0 : H S = none := by
          cases z : H S with
          | none => rfl
          | some u =>
            rw [base S u z] at hS
            cases hS
        refine ⟨S, rfl, ⟨_, .inl (.inl upd_same)⟩, fun D2 hD2 => ?_⟩
        have nD2S : D2 ≠ S := fun e => by
          rw [e, upd_same] at hD2
          cases hD2
        rw [upd_ne nD2S] at hD2
        have hD20 : H D2 = none := by
          cases z : H D2 with
          | none => rfl
          | some u =>
            rw [base D2 u z] at hD2
            cases hD2
        have eord : (ps.mergeSort leIS).map (·.2.2) = ordW l := by
          rw [sort_words p4, p2]
          rfl
        have elen : (ps.mergeSort leIS).length = (ordW l).length := by rw [← eord, List.length_map]
        refine lc_it (walk_list (xs := (ps.mergeSort leIS).map fun p => V.ref p.1)) (fun i H2 => H2 D2 = some (.lst (((ordW l).take i).map V.str)) ∧ Same H H2 ∧ (∀ p ∈ ps, H2 p.1 = some (.tup [.int p.2.1, .str p.2.2])) ∧ H2 S = some (.lst ((ps.mergeSort leIS).map fun p => V.ref p.1)))
          ⟨upd_same, ?_, ?_, ?_⟩ (fun i H2 _ hP => .inl (.inl hP.2.2.2)) ?_ ?_
        · intro b o z
          rw [upd_ne (ne_of_none z hD20), upd_ne (ne_of_none z hS0)]
          exact base b o z
        · intro p hp
          have g : (upd H' d (.dK (kv l))) p.1 = some (.tup [.int p.2.1, .str p.2.2]) := by
            rw [upd_ne (ne_of (p3 p hp) p6 (by intro z; cases z))]
            exact p3 p hp
          rw [upd_ne (ne_of_none g hD2), upd_ne (ne_of_none g hS)]
          exact g
        · rw [upd_ne nD2S.symm]
          exact upd_same
        · rintro i x H1 H2 hi ⟨g1, g2, g3, g4⟩ ⟨rfl, e⟩
          rw [List.length_map] at hi
          rw [List.getElem?_map] at e
          cases en : (ps.mergeSort leIS)[i]? with
          | none => rw [en] at e; cases e
          | some p =>
            rw [en] at e
            have e2 : V.ref p.1 = x := Option.some.inj e
            subst e2
            have hp : p ∈ ps := List.mem_mergeSort.mp (List.mem_of_getElem? en)
            have ew : (ordW l)[i]? = some p.2.2 := by
              rw [← eord, List.getElem?_map, en]
              rfl
            have hw1 : i < (ordW l).length := (List.getElem?_eq_some_iff.mp ew).1
            have hw2 := ordW_len l
            refine ⟨rfl, ?_⟩
            refine ⟨_, rfl, p.1, _, 1, _, rfl, rfl, .inl (.inl (g3 p hp)), rfl, ?_⟩
            refine ⟨_, g1, ?_, ?_, ?_, ?_, ?_⟩
            · rw [List.length_map, List.length_take]
              omega
            · rw [upd_same, List.take_add_one, ew, List.map_append]
              rfl
            · intro b o z
              rw [upd_ne (ne_of_none z hD20)]
              exact g2 b o z
            · intro r hr
              rw [upd_ne (ne_of (g3 r hr) g1 (by intro z; cases z))]
              exact g3 r hr
            · rw [upd_ne nD2S.symm]
              exact g4
        · rintro H2 ⟨g1, g2, g3, g4⟩
          rw [List.length_map, elen, List.take_length] at g1
          exact q H2 D2 g2 hD20 g1
def spCk : Sp := fun vs H Q _ => ∃ h ca : Addr, vs = [.ref h] ∧ HandAt ca H h ∧ ∀ H' c, HandAt ca H' h → But h H H' → isCk c → Q (.int c) H'
theorem sc_ck : FnScope ["_law_hand_here"] ["_law_hand_here"] (defScope s__law_clock) := ⟨rfl, rfl, rfl, by decide +kernel, rfl, by decide +kernel, by decide +kernel⟩
theorem ok_ck (T : Top K mg) : Ok P w K mg base 2 "_law_clock" ["_law_hand_here"] spCk := by
  obtain ⟨fd, F⟩ := fn__law_clock T
  refine ⟨⟨fd, ?_, F.bindsN fun _ _ _ _ _ _ us hl => match us, hl with | [_], _ => rfl⟩, g__law_clock T, F.kp⟩
  refine F.ok sc_ck (fun vs H Q E h => ?_) (fun cdv A outer s H vs Q E hr h => ?_)
  · obtain ⟨h, ca, rfl, _⟩ := h
    rfl
  · obtain ⟨h, ca, rfl, hh, q⟩ := h
    refine ⟨_, PSs.nox (pss_one (ps_ret (pe_ix ix_list (pe_lst (pa_cons pe_int (pa_cons pe_int (pa_cons pe_int (pa_cons pe_int (pa_cons pe_int (pa_cons pe_int (pa_cons pe_int (pa_cons pe_int pa_nil))))))))) (pc (ok_draw T) hr (pa_cons (pv 0) (pa_cons pe_int pa_nil))) (fun _ _ => rfl)))), ?_⟩
    refine ⟨by show 8 ≤ sizeLine; rw [sizeLine_eq]; decide, fun L hL => ?_⟩
    have hne : h ≠ L := by
      obtain ⟨xs, hx⟩ := hh.lst
      exact ne_of_none hx hL
    refine ⟨_, rfl, h, ca, 8, rfl, by decide, by decide, hh.same (same_upd hL), fun r H1 hr0 hr1 h1 k1 => ?_⟩
    obtain ⟨n, rfl⟩ : ∃ n : Nat, r = n := ⟨r.toNat, (Int.toNat_of_nonneg hr0).symm⟩
    have hn : n < 8 := by omega
    have e : ∃ c : Int, isCk c ∧ [V.int 2, V.int 3, V.int 2, V.int 3, V.int 2, V.int 3, V.int 5, V.int 7][n]? = some (V.int c) := by
      have : n = 0 ∨ n = 1 ∨ n = 2 ∨ n = 3 ∨ n = 4 ∨ n = 5 ∨ n = 6 ∨ n = 7 := by omega
      rcases this with rfl | rfl | rfl | rfl | rfl | rfl | rfl | rfl
      · exact ⟨2, .inl rfl, rfl⟩
      · exact ⟨3, .inr (.inl rfl), rfl⟩
      · exact ⟨2, .inl rfl, rfl⟩
      · exact ⟨3, .inr (.inl rfl), rfl⟩
      · exact ⟨2, .inl rfl, rfl⟩
      · exact ⟨3, .inr (.inl rfl), rfl⟩
      · exact ⟨5, .inr (.inr (.inl rfl)), rfl⟩
      · exact ⟨7, .inr (.inr (.inr rfl)), rfl⟩
    obtain ⟨c, hc, ec⟩ := e
    refine ⟨L, _, _, _, rfl, rfl, .inl (.inl (k1 _ _ upd_same hne.symm)), atI_nat ec, ?_⟩
    exact q H1 c h1 (fun b o z n => k1 b o (same_upd hL b o z) n) hc
end
end Fp

set_option Elab.async false
set_option linter.all false
set_option maxRecDepth 100000
set_option maxHeartbeats 4000000
namespace Fp
open PySem PySem.Spec PyProof.Rows L2 TL
/-! ### words drawn -/
theorem join_signs : ∀ ys : List Str, (∀ y ∈ ys, ∃ c, y = ⟨#[c]⟩ ∧ (c = 120 ∨ c = 121 ∨ c = 122)) → xyz (PySem.Txt.join "" ys) ∧ (PySem.Txt.join "" ys).length = ys.length := by
  intro ys
  have h0 : ∀ zs : List Str, (∀ y ∈ zs, ∃ c, y = ⟨#[c]⟩ ∧ (c = 120 ∨ c = 121 ∨ c = 122)) → (∀ c ∈ joinL [] (zs.map tl), c = 120 ∨ c = 121 ∨ c = 122) ∧ (joinL [] (zs.map tl)).length = zs.length := by
    intro zs
    induction zs with
    | nil => intro _; exact ⟨fun c hc => (by cases hc), rfl⟩
    | cons y r ih =>
      intro h
      obtain ⟨c, rfl, hc⟩ := h y List.mem_cons_self
      obtain ⟨i1, i2⟩ := ih fun z hz => h z (List.mem_cons_of_mem _ hz)
      cases r with
      | nil =>
        refine ⟨fun d hd => ?_, rfl⟩
        have : d = c := by simpa [joinL, tl] using hd
        rw [this]
        exact hc
      | cons z r =>
        have e : joinL [] ((⟨#[c]⟩ :: z :: r : List Str).map tl) = c :: joinL [] ((z :: r).map tl) := rfl
        rw [e]
        refine ⟨fun d hd => ?_, by rw [List.length_cons, i2]; rfl⟩
        rcases List.mem_cons.mp hd with rfl | hd
        · exact hc
        · exact i1 d hd
  intro h
  obtain ⟨h1, h2⟩ := h0 ys h
  have e : tl (PySem.Txt.join "" ys) = joinL [] (ys.map tl) := by
    rw [join_eq, tl_join]
    rfl
  refine ⟨fun c hc => h1 c ?_, ?_⟩
  · rw [← e]
    exact hc
  · rw [len_tl, e, h2]
theorem vt_put {c : Int} {m k : Nat} {l : Tb} (hv : VT c m k l) {x : Str} (hx : xyz x) (hl : x.length ≤ m) {n : Int} (h1 : 1 ≤ n) (h2 : n < c) : VT c m (k + 1) (putT l x n) := by
  refine ⟨nd_put hv.nd x n, fun p hp => ?_, fun p hp => ?_, Nat.le_trans (len_put l x n) (Nat.succ_le_succ hv.ln)⟩
  · rcases mem_put hp with rfl | hp
    · exact ⟨h1, h2⟩
    · exact hv.nu p hp
  · rcases mem_put hp with rfl | hp
    · exact ⟨hx, hl⟩
    · exact hv.wd p hp
section
variable {P : Program} {w : World} {K : PySem.W.Frag} {mg : Str → Option Value} {base : Heap}
def spWrd : Sp := fun vs H Q _ => ∃ (h ca : Addr) (z : Str) (m : Nat), vs = [.ref h, .str z, .int m] ∧ HandAt ca H h ∧ xyz z ∧ 1 ≤ z.length ∧ z.length ≤ 1000 ∧ m ≤ 1000 ∧ ∀ H' r, HandAt ca H' h → But h H H' → xyz r → r.length ≤ m → Q (.str r) H'
abbrev nWrd : List Str := ["_law_hand_here", "_law_letters", "_law_most", "_law_turn"]
theorem sc_wrd : FnScope nWrd ["_law_hand_here", "_law_letters", "_law_most"] (defScope s__law_word) := ⟨rfl, rfl, rfl, by decide +kernel, rfl, by decide +kernel, by decide +kernel⟩
theorem ok_wrd (T : Top K mg) : Ok P w K mg base 3 "_law_word" ["_law_hand_here", "_law_letters", "_law_most"] spWrd := by
  obtain ⟨fd, F⟩ := fn__law_word T
  refine ⟨⟨fd, ?_, F.bindsN fun _ _ _ _ _ _ us hl => match us, hl with | [_, _, _], _ => rfl⟩, g__law_word T, F.kp⟩
  refine F.ok sc_wrd (fun vs H Q E h => ?_) (fun cdv A outer s H vs Q E hr h => ?_)
  · obtain ⟨h, ca, z, m, rfl, _⟩ := h
    rfl
  · obtain ⟨h, ca, z, m, rfl, hh, hz, hz1, hz2, hm, q⟩ := h
    have nd := sc_wrd.nd
    have hs : sizeLine = 16777216 := sizeLine_eq
    have hr1 : Room 1 _ := hr.mono (by decide)
    refine ⟨_, PSs.nox (pss_one (ps_ret (pe_join pe_str (pe_lc (own := [("_law_turn", 3)]) (g := gName 3) (tt := tYes) rfl nd (pi_range1 (by rfl) (f_range T) (pa_cons (pc (ok_draw T) hr1 (pa_cons (pv 0) (pa_cons (pe_op op_add (pv 2) pe_int) pa_nil))) pa_nil))
      (blkOk_by (N := nWrd) (sc := defScope s__law_word) (by decide +kernel)) (fun _ _ _ _ _ => pg_name (i := 3) nd rfl (Or.inl rfl)) (fun _ _ _ _ _ => pts_nil)
      (fun _ _ _ _ _ => pe_item_str (pv 1) (pc (ok_draw T) hr1 (pa_cons (pv 0) (pa_cons (pe_callB call_len_str (by rfl) (f_len T) PySem.boot_len (pa_cons (pv 1) pa_nil)) pa_nil))) (fun _ _ => rfl)))))), ?_⟩
    refine ⟨⟨_, rfl⟩, ?_⟩
    refine ⟨_, rfl, _, rfl, _, _, rfl, rfl, h, ca, (m : Int) + 1, rfl, by omega, by omega, hh, fun r1 H1 hr0 hr2 hh1 k1 => ?_⟩
    refine ⟨r1, rfl, by omega, by omega, fun D hD => ?_⟩
    have nhD : h ≠ D := by
      obtain ⟨xs, hx⟩ := hh1.lst
      exact ne_of_none hx hD
    have ncD : ca ≠ D := by
      obtain ⟨xs, hx⟩ := hh1.cells
      exact ne_of_none hx hD
    refine lc_it walk_range (fun i H' => (∃ ys : List Str, H' D = some (.lst (ys.map V.str)) ∧ ys.length = i ∧ ∀ y ∈ ys, ∃ c, y = ⟨#[c]⟩ ∧ (c = 120 ∨ c = 121 ∨ c = 122)) ∧ HandAt ca H' h ∧ But h H1 H')
      ⟨⟨[], upd_same, rfl, fun y hy => (by cases hy)⟩, hh1.same (same_upd hD), But.of (same_upd hD)⟩ (fun _ _ _ _ => trivial) ?_ ?_
    · rintro i x H2 H3 hi ⟨⟨ys, p1, p2, p3⟩, p4, p5⟩ ⟨rfl, rfl⟩
      refine ⟨rfl, ?_⟩
      refine ⟨_, rfl, _, rfl, _, rfl, z, rfl, by omega, h, ca, (z.length : Int), rfl, by omega, by omega, p4, fun r2 H4 hr3 hr4 hh4 k4 => ?_⟩
      obtain ⟨n, rfl⟩ : ∃ n : Nat, r2 = n := ⟨r2.toNat, (Int.toNat_of_nonneg hr3).symm⟩
      have hn : n < z.cps.size := by
        have : z.length = z.cps.size := rfl
        omega
      refine ⟨z, _, z.cps[n], rfl, rfl, by omega, by omega, hr4, ?_, ?_⟩
      · rw [Int.toNat_natCast, Array.getElem?_eq_getElem hn]
      · refine ⟨_, k4 _ _ p1 nhD.symm, ?_, ⟨ys ++ [⟨#[z.cps[n]]⟩], ?_, ?_, ?_⟩, ?_, ?_⟩
        · rw [List.length_map]
          omega
        · rw [upd_same, List.map_append]
          rfl
        · rw [List.length_append, p2]
          rfl
        · intro y hy
          rcases List.mem_append.mp hy with hy | hy
          · exact p3 y hy
          · have : y = ⟨#[z.cps[n]]⟩ := by simpa using hy
            exact ⟨_, this, hz _ (by simp)⟩
        · exact hh4.off (d := D) but_upd nhD ncD
        · intro b o z' n'
          have nb : b ≠ D := ne_of_none z' hD
          rw [upd_ne nb]
          exact k4 b o (p5 b o z' n') n'
    · rintro H' ⟨⟨ys, p1, p2, p3⟩, p4, p5⟩
      obtain ⟨j1, j2⟩ := join_signs ys p3
      refine ⟨_, D, ys, rfl, rfl, .inl (.inl (.inl p1)), ?_, ?_⟩
      · have e : (ys.map (·.length)).sum = ys.length := by
          clear p1 p2 j1 j2
          induction ys with
          | nil => rfl
          | cons y r ih =>
            obtain ⟨c, rfl, _⟩ := p3 y List.mem_cons_self
            rw [List.map_cons, List.sum_cons, ih fun w hw => p3 w (List.mem_cons_of_mem _ hw), List.length_cons]
            show 1 + r.length = _
            omega
        rw [e]
        show ys.length + ys.length * 0 ≤ _
        omega
      · exact q H' _ p4 (fun b o z' n' => p5 b o (k1 b o z' n') n') j1 (by omega)
end
end Fp

set_option Elab.async false
set_option linter.all false
set_option maxRecDepth 100000
set_option maxHeartbeats 4000000
namespace Fp
open PySem PySem.Spec PyProof.Rows L2
instance (w : Str) : Decidable (xyz w) := by unfold xyz; infer_instance
theorem merge_kv' : ∀ (l a : Tb), Nd l → (∀ p ∈ l, has a p.1 = false) → mergeK (kv a) (kv l) = kv (a ++ l)
  | [], a, _, _ => by
    rw [List.append_nil]
    rfl
  | p :: r, a, h, hd => by
    have h' : (p.1 :: r.map (·.1)).Nodup := h
    obtain ⟨h1, h2⟩ := List.nodup_cons.mp h'
    have e : mergeK (kv a) (kv (p :: r)) = mergeK (putK (kv a) (Sum.inr p.1 : Key) (.int p.2)) (kv r) := rfl
    have e2 : putT a p.1 p.2 = a ++ [p] := by
      unfold putT
      rw [hd p List.mem_cons_self, if_neg Bool.false_ne_true]
    rw [e, putK_kv, e2, merge_kv' r (a ++ [p]) h2 fun q hq => ?_]
    · rw [List.append_assoc]
      rfl
    · unfold has
      rw [List.any_append]
      have h3 := hd q (List.mem_cons_of_mem _ hq)
      unfold has at h3
      rw [h3]
      have : p.1 ≠ q.1 := fun z => h1 (z ▸ List.mem_map.mpr ⟨q, hq, rfl⟩)
      simp [this]
theorem merge_kv {l : Tb} (h : Nd l) : mergeK [] (kv l) = kv l := merge_kv' l [] h fun _ _ => rfl
theorem vt_small {c : Int} {l : Tb} (hk : Nd l) (hw : ∀ x ∈ l.map (·.1), xyz x ∧ x.length ≤ 2) (hn : ∀ p ∈ l, 1 ≤ p.2 ∧ p.2 < c) (hl : l.length ≤ 3) : VT c 2 3 l :=
  ⟨hk, hn, fun p hp => hw _ (List.mem_map.mpr ⟨p, hp, rfl⟩), hl⟩
theorem vt1 {c n : Int} {a : Str} (ha : xyz a ∧ a.length ≤ 2) (h1 : 1 ≤ n) (h2 : n < c) : VT c 2 3 [(a, n)] := by
  refine ⟨by show [a].Nodup; simp, fun p hp => ?_, fun p hp => ?_, by show 1 ≤ 3; decide⟩
  · have : p = (a, n) := by simpa using hp
    subst this
    exact ⟨h1, h2⟩
  · have : p = (a, n) := by simpa using hp
    subst this
    exact ha
theorem vt2 {c n m : Int} {a b : Str} (hne : a ≠ b) (ha : xyz a ∧ a.length ≤ 2) (hb : xyz b ∧ b.length ≤ 2) (h1 : 1 ≤ n ∧ n < c) (h2 : 1 ≤ m ∧ m < c) : VT c 2 3 [(a, n), (b, m)] := by
  refine ⟨by show [a, b].Nodup; simp [hne], fun p hp => ?_, fun p hp => ?_, by show 2 ≤ 3; decide⟩
  · have hp' : p = (a, n) ∨ p = (b, m) := by simpa using hp
    rcases hp' with rfl | rfl
    · exact h1
    · exact h2
  · have hp' : p = (a, n) ∨ p = (b, m) := by simpa using hp
    rcases hp' with rfl | rfl
    · exact ha
    · exact hb
theorem vt3 {c n m k : Int} {a b d : Str} (hn : ([a, b, d] : List Str).Nodup) (ha : xyz a ∧ a.length ≤ 2) (hb : xyz b ∧ b.length ≤ 2) (hd : xyz d ∧ d.length ≤ 2) (h1 : 1 ≤ n ∧ n < c) (h2 : 1 ≤ m ∧ m < c) (h3 : 1 ≤ k ∧ k < c) : VT c 2 3 [(a, n), (b, m), (d, k)] := by
  refine ⟨hn, fun p hp => ?_, fun p hp => ?_, by show 3 ≤ 3; decide⟩
  · have hp' : p = (a, n) ∨ p = (b, m) ∨ p = (d, k) := by simpa using hp
    rcases hp' with rfl | rfl | rfl
    · exact h1
    · exact h2
    · exact h3
  · have hp' : p = (a, n) ∨ p = (b, m) ∨ p = (d, k) := by simpa using hp
    rcases hp' with rfl | rfl | rfl
    · exact ha
    · exact hb
    · exact hd
section
variable {P : Program} {w : World} {K : PySem.W.Frag} {mg : Str → Option Value} {base : Heap}
def spLot : Sp := fun vs H Q _ => ∃ (h ca : Addr) (c : Int) (z : Str) (m k : Nat), vs = [.ref h, .int c, .str z, .int m, .int k] ∧ HandAt ca H h ∧ 2 ≤ c ∧ c ≤ 7 ∧ xyz z ∧ 1 ≤ z.length ∧ z.length ≤ 1000 ∧ m ≤ 1000 ∧ k ≤ 1000 ∧
  ∀ H' d l, HandAt ca H' h → But h H H' → H d = none → H' d = some (.dK (kv l)) → VT c m k l → Q (.ref d) H'
abbrev nLot : List Str := ["_law_hand_here", "_law_clock_here", "_law_letters", "_law_most", "_law_many", "_law_found", "_law_turn"]
theorem sc_lot : FnScope nLot ["_law_hand_here", "_law_clock_here", "_law_letters", "_law_most", "_law_many"] (defScope s__law_lot) := ⟨rfl, rfl, rfl, by decide +kernel, rfl, by decide +kernel, by decide +kernel⟩
theorem ok_lot (T : Top K mg) : Ok P w K mg base 4 "_law_lot" ["_law_hand_here", "_law_clock_here", "_law_letters", "_law_most", "_law_many"] spLot := by
  obtain ⟨fd, F⟩ := fn__law_lot T
  refine ⟨⟨fd, ?_, F.bindsN fun _ _ _ _ _ _ us hl => match us, hl with | [_, _, _, _, _], _ => rfl⟩, g__law_lot T, F.kp⟩
  refine F.ok sc_lot (fun vs H Q E h => ?_) (fun cdv A outer s H vs Q E hr h => ?_)
  · obtain ⟨h, ca, c, z, m, k, rfl, _⟩ := h
    rfl
  · obtain ⟨h, ca, c, z, m, k, rfl, hh, hc2, hc7, hz, hz1, hz2, hm, hk, q⟩ := h
    have nd := sc_lot.nd
    have hu := hu_of hr
    have hs : sizeLine = 16777216 := sizeLine_eq
    have hr1 : Room 1 _ := hr.mono (by decide)
    refine ⟨_, PSs.nox (pss_cons (ps_set (i := 5) nd rfl (Or.inl rfl) pe_dnewK)
      (pss_cons (ps_for PassesOwn.never rfl (pi_range1 (by rfl) (f_range T) (pa_cons (pc (ok_draw T) hr1 (pa_cons (pv 0) (pa_cons (pe_op op_add (pv 4) pe_int) pa_nil))) pa_nil)) (pg_name (i := 6) nd rfl (Or.inl rfl))
        (pss_one (ps_dput hu (pv 5) (pc (ok_wrd T) hr (pa_cons (pv 0) (pa_cons (pv 2) (pa_cons (pv 3) pa_nil)))) (pe_op op_add pe_int (pc (ok_draw T) hr1 (pa_cons (pv 0) (pa_cons (pe_op op_sub (pv 1) pe_int) pa_nil)))) rfl)))
      (pss_one (ps_ret (pv 5))))), ?_⟩
    refine fun F0 hF => ?_
    have nhF : h ≠ F0 := by
      obtain ⟨xs, hx⟩ := hh.lst
      exact ne_of_none hx hF
    have ncF : ca ≠ F0 := by
      obtain ⟨xs, hx⟩ := hh.cells
      exact ne_of_none hx hF
    refine ⟨_, rfl, _, rfl, _, _, rfl, rfl, h, ca, (k : Int) + 1, rfl, by omega, by omega, hh.same (same_upd hF), fun r1 H1 hr0 hr2 hh1 k1 => ?_⟩
    refine ⟨r1, rfl, by omega, by omega, ?_⟩
    refine for_it walk_range (fun i σ H' => (∃ v, σ = [some (.ref h), some (.int c), some (.str z), some (.int m), some (.int k), some (.ref F0), v]) ∧ (∃ l, H' F0 = some (.dK (kv l)) ∧ VT c m i l) ∧ HandAt ca H' h ∧ But h H H')
      ⟨⟨none, rfl⟩, ⟨[], k1 _ _ upd_same nhF.symm, vt_nil c m⟩, hh1, fun b o e n => k1 b o (same_upd hF b o e) n⟩ (fun _ _ _ _ _ => trivial) ?_ ?_
    · rintro i x σ H2 H3 hi ⟨⟨v, rfl⟩, ⟨l, p1, p2⟩, p3, p4⟩ ⟨rfl, rfl⟩
      refine ⟨_, rfl, _, rfl, _, _, rfl, rfl, h, ca, c - 1, rfl, by omega, by omega, p3, fun r2 H4 g0 g1 hh4 k4 => ?_⟩
      refine ⟨_, _, rfl, rfl, _, rfl, _, rfl, _, rfl, _, rfl, h, ca, z, m, rfl, hh4, hz, hz1, hz2, hm, fun H5 x5 hh5 k5 hx5 hl5 => ?_⟩
      have e5 : H5 F0 = some (.dK (kv l)) := k5 _ _ (k4 _ _ p1 nhF.symm) nhF.symm
      have hlen := p2.ln
      refine ⟨F0, _, rfl, DPut.k (k := Sum.inr x5) e5 (by rw [kv_len]; omega), ?_⟩
      refine ⟨⟨_, rfl⟩, ⟨putT l x5 (1 + r2), ?_, vt_put p2 hx5 hl5 (by omega) (by omega)⟩, hh5.off but_upd nhF ncF, fun b o e n => ?_⟩
      · rw [upd_same, putK_kv]
      · rw [upd_ne (ne_of_none e hF)]
        exact k5 b o (k4 b o (p4 b o e n) n) n
    · rintro σ H' ⟨⟨v, rfl⟩, ⟨l, p1, p2⟩, p3, p4⟩
      refine ⟨_, rfl, ?_⟩
      exact q H' F0 l p3 p4 hF p1 (p2.mono (Nat.le_refl _) (by omega))
def spSmall : Sp := fun vs H Q _ => ∃ (h ca : Addr) (c : Int), vs = [.ref h, .int c] ∧ HandAt ca H h ∧ 2 ≤ c ∧ c ≤ 7 ∧ ∀ H' d l, HandAt ca H' h → But h H H' → H d = none → H' d = some (.dK (kv l)) → VT c 2 3 l → Q (.ref d) H'
/-- what is known of each of the small ones -/
def Good (c : Int) (H0 H : Hp) (d : Addr) : Prop := ∃ l, H d = some (.dK (kv l)) ∧ VT c 2 3 l ∧ H0 d = none
theorem Good.same {c : Int} {H0 H H' : Hp} {d : Addr} (g : Good c H0 H d) (s : Same H H') : Good c H0 H' d := by
  obtain ⟨l, h1, h2, h3⟩ := g
  exact ⟨l, s _ _ h1, h2, h3⟩
/-- one more display -/
theorem one_more {c : Int} {H0 H : Hp} {ds : List Addr} {p : Addr} {l : Tb} (s0 : Same H0 H) (hp : H p = none) (g : ∀ d ∈ ds, Good c H0 H d) (hv : VT c 2 3 l) :
    Same H0 (upd H p (.dK (kv l))) ∧ ∀ d ∈ ds ++ [p], Good c H0 (upd H p (.dK (kv l))) d := by
  refine ⟨s0.trans (same_upd hp), fun d hd => ?_⟩
  rcases List.mem_append.mp hd with hd | hd
  · exact (g d hd).same (same_upd hp)
  · have : d = p := by simpa using hd
    subst this
    exact ⟨l, upd_same, hv, s0.free hp⟩
theorem one_list {c : Int} {H0 H : Hp} {ds : List Addr} {p : Addr} {xs : List V} (s0 : Same H0 H) (hp : H p = none) (g : ∀ d ∈ ds, Good c H0 H d) :
    Same H0 (upd H p (.lst xs)) ∧ ∀ d ∈ ds, Good c H0 (upd H p (.lst xs)) d := ⟨s0.trans (same_upd hp), fun d hd => (g d hd).same (same_upd hp)⟩
abbrev nSmall : List Str := ["_law_hand_here", "_law_clock_here", "_law_number", "_law_some_here"]
theorem sc_small : FnScope nSmall ["_law_hand_here", "_law_clock_here"] (defScope s__law_small) := ⟨rfl, rfl, rfl, by decide +kernel, rfl, by decide +kernel, by decide +kernel⟩
theorem ok_small (T : Top K mg) : Ok P w K mg base 2 "_law_small" ["_law_hand_here", "_law_clock_here"] spSmall := by
  obtain ⟨fd, F⟩ := fn__law_small T
  refine ⟨⟨fd, ?_, F.bindsN fun _ _ _ _ _ _ us hl => match us, hl with | [_, _], _ => rfl⟩, g__law_small T, F.kp⟩
  refine F.ok sc_small (fun vs H Q E h => ?_) (fun cdv A outer s H vs Q E hr h => ?_)
  · obtain ⟨h, ca, c, rfl, _⟩ := h
    rfl
  · obtain ⟨h, ca, c, rfl, hh, hc2, hc7, q⟩ := h
    have nd := sc_small.nd
    have hs : sizeLine = 16777216 := sizeLine_eq
    refine ⟨_, PSs.nox (pss_cons (ps_set (i := 2) nd rfl (Or.inl rfl) (pe_op op_add pe_int (pc (ok_draw T) hr (pa_cons (pv 0) (pa_cons (pe_op op_sub (pv 1) pe_int) pa_nil)))))
      (pss_cons (ps_set (i := 3) nd rfl (Or.inl rfl) (pe_lst (pa_cons (pe_disp (pps_cons pe_str pe_int pps_nil) (by rfl) (by rfl) (fun z => by cases z) (by decide))
        (pa_cons (pe_disp (pps_cons pe_str pe_int pps_nil) (by rfl) (by rfl) (fun z => by cases z) (by decide))
        (pa_cons (pe_disp (pps_cons pe_str pe_int (pps_cons pe_str (pv 2) pps_nil)) (by rfl) (by rfl) (fun z => by cases z) (by decide))
        (pa_cons (pe_disp (pps_cons pe_str (pv 2) (pps_cons pe_str pe_int pps_nil)) (by rfl) (by rfl) (fun z => by cases z) (by decide))
        (pa_cons (pe_disp (pps_cons pe_str pe_int (pps_cons pe_str (pv 2) pps_nil)) (by rfl) (by rfl) (fun z => by cases z) (by decide)) pa_nil)))))))
      (pss_cons (ps_set (i := 3) nd rfl (Or.inl rfl) (pe_op op_cat (pv 3) (pe_lst (pa_cons (pe_disp (pps_cons pe_str pe_int (pps_cons pe_str (pv 2) pps_nil)) (by rfl) (by rfl) (fun z => by cases z) (by decide))
        (pa_cons (pe_disp (pps_cons pe_str pe_int (pps_cons pe_str (pv 2) pps_nil)) (by rfl) (by rfl) (fun z => by cases z) (by decide))
        (pa_cons (pe_disp (pps_cons pe_str pe_int (pps_cons pe_str (pv 2) pps_nil)) (by rfl) (by rfl) (fun z => by cases z) (by decide))
        (pa_cons (pe_disp (pps_cons pe_str pe_int (pps_cons pe_str (pv 2) pps_nil)) (by rfl) (by rfl) (fun z => by cases z) (by decide)) pa_nil)))))))
      (pss_cons (ps_set (i := 3) nd rfl (Or.inl rfl) (pe_op op_cat (pv 3) (pe_lst (pa_cons (pe_disp (pps_cons pe_str (pv 2) (pps_cons pe_str pe_int (pps_cons pe_str pe_int pps_nil))) (by rfl) (by rfl) (fun z => by cases z) (by decide))
        (pa_cons (pe_disp (pps_cons pe_str (pv 2) pps_nil) (by rfl) (by rfl) (fun z => by cases z) (by decide))
        (pa_cons (pe_disp (pps_cons pe_str pe_int (pps_cons pe_str (pv 2) pps_nil)) (by rfl) (by rfl) (fun z => by cases z) (by decide)) pa_nil))))))
      (pss_one (ps_ret (pe_ix ix_list (pv 3) (pc (ok_draw T) hr (pa_cons (pv 0) (pa_cons pe_int pa_nil))) (fun _ _ => rfl)))))))), ?_⟩
    refine ⟨_, rfl, _, rfl, _, _, rfl, rfl, h, ca, c - 1, rfl, by omega, by omega, hh, fun r0 H1 hr0 hr1 hh1 k1 => ⟨_, _, rfl, rfl, ?_⟩⟩
    have hn1 : 1 ≤ 1 + r0 := by omega
    have hn2 : 1 + r0 < c := by omega
    have g0 : ∀ d ∈ ([] : List Addr), Good c H1 H1 d := fun d hd => by cases hd
    have s0 := Same.refl H1
    have h11 : (1 : Int) ≤ 1 ∧ (1 : Int) < c := ⟨by decide, by omega⟩
    have hnn : 1 ≤ 1 + r0 ∧ 1 + r0 < c := ⟨hn1, hn2⟩
    refine fun p0 n0 => ⟨upd_same, kv [("x", 1)], rfl, Nat.le_of_ble_eq_true rfl, ?_⟩
    have v0 : VT c 2 3 [("x", 1)] := (vt1 (a := "x") (by decide +kernel) h11.1 h11.2)
    rw [upd_upd, merge_kv v0.nd]
    obtain ⟨s1, g1⟩ := one_more s0 n0 g0 v0
    generalize upd H1 p0 (.dK (kv [("x", 1)])) = H2 at s1 g1  ⊢
    refine fun p1 n1 => ⟨upd_same, kv [("y", 1)], rfl, Nat.le_of_ble_eq_true rfl, ?_⟩
    have v1 : VT c 2 3 [("y", 1)] := (vt1 (a := "y") (by decide +kernel) h11.1 h11.2)
    rw [upd_upd, merge_kv v1.nd]
    obtain ⟨s2, g2⟩ := one_more s1 n1 g1 v1
    generalize upd H2 p1 (.dK (kv [("y", 1)])) = H3 at s2 g2  ⊢
    refine fun p2 n2 => ⟨_, rfl, upd_same, kv [("x", 1), ("", 1 + r0)], rfl, Nat.le_of_ble_eq_true rfl, ?_⟩
    have v2 : VT c 2 3 [("x", 1), ("", 1 + r0)] := (vt2 (a := "x") (b := "") (by decide +kernel) (by decide +kernel) (by decide +kernel) h11 hnn)
    rw [upd_upd, merge_kv v2.nd]
    obtain ⟨s3, g3⟩ := one_more s2 n2 g2 v2
    generalize upd H3 p2 (.dK (kv [("x", 1), ("", 1 + r0)])) = H4 at s3 g3  ⊢
    refine fun p3 n3 => ⟨_, rfl, upd_same, kv [("y", 1 + r0), ("", 1)], rfl, Nat.le_of_ble_eq_true rfl, ?_⟩
    have v3 : VT c 2 3 [("y", 1 + r0), ("", 1)] := (vt2 (a := "y") (b := "") (by decide +kernel) (by decide +kernel) (by decide +kernel) hnn h11)
    rw [upd_upd, merge_kv v3.nd]
    obtain ⟨s4, g4⟩ := one_more s3 n3 g3 v3
    generalize upd H4 p3 (.dK (kv [("y", 1 + r0), ("", 1)])) = H5 at s4 g4  ⊢
    refine fun p4 n4 => ⟨_, rfl, upd_same, kv [("x", 1), ("y", 1 + r0)], rfl, Nat.le_of_ble_eq_true rfl, ?_⟩
    have v4 : VT c 2 3 [("x", 1), ("y", 1 + r0)] := (vt2 (a := "x") (b := "y") (by decide +kernel) (by decide +kernel) (by decide +kernel) h11 hnn)
    rw [upd_upd, merge_kv v4.nd]
    obtain ⟨s5, g5⟩ := one_more s4 n4 g4 v4
    generalize upd H5 p4 (.dK (kv [("x", 1), ("y", 1 + r0)])) = H6 at s5 g5  ⊢
    refine ⟨by show 5 ≤ sizeLine; omega, fun L0 mL0 => ?_⟩
    obtain ⟨s6, g6⟩ := one_list (xs := [V.ref p0, V.ref p1, V.ref p2, V.ref p3, V.ref p4]) s5 mL0 g5
    have eL0 : (upd H6 L0 (.lst [V.ref p0, V.ref p1, V.ref p2, V.ref p3, V.ref p4])) L0 = some (.lst [V.ref p0, V.ref p1, V.ref p2, V.ref p3, V.ref p4]) := upd_same
    generalize upd H6 L0 (.lst [V.ref p0, V.ref p1, V.ref p2, V.ref p3, V.ref p4]) = H7 at s6 g6 eL0 ⊢
    refine ⟨_, rfl, ?_⟩
    refine fun p5 n5 => ⟨_, rfl, upd_same, kv [("xy", 1), ("", 1 + r0)], rfl, Nat.le_of_ble_eq_true rfl, ?_⟩
    have v5 : VT c 2 3 [("xy", 1), ("", 1 + r0)] := (vt2 (a := "xy") (b := "") (by decide +kernel) (by decide +kernel) (by decide +kernel) h11 hnn)
    rw [upd_upd, merge_kv v5.nd]
    obtain ⟨s7, g7⟩ := one_more s6 n5 g6 v5
    replace eL0 := same_upd (o := .dK (kv [("xy", 1), ("", 1 + r0)])) n5 _ _ eL0
    generalize upd H7 p5 (.dK (kv [("xy", 1), ("", 1 + r0)])) = H8 at s7 g7 eL0 ⊢
    refine fun p6 n6 => ⟨_, rfl, upd_same, kv [("yx", 1), ("", 1 + r0)], rfl, Nat.le_of_ble_eq_true rfl, ?_⟩
    have v6 : VT c 2 3 [("yx", 1), ("", 1 + r0)] := (vt2 (a := "yx") (b := "") (by decide +kernel) (by decide +kernel) (by decide +kernel) h11 hnn)
    rw [upd_upd, merge_kv v6.nd]
    obtain ⟨s8, g8⟩ := one_more s7 n6 g7 v6
    replace eL0 := same_upd (o := .dK (kv [("yx", 1), ("", 1 + r0)])) n6 _ _ eL0
    generalize upd H8 p6 (.dK (kv [("yx", 1), ("", 1 + r0)])) = H9 at s8 g8 eL0 ⊢
    refine fun p7 n7 => ⟨_, rfl, upd_same, kv [("xx", 1), ("y", 1 + r0)], rfl, Nat.le_of_ble_eq_true rfl, ?_⟩
    have v7 : VT c 2 3 [("xx", 1), ("y", 1 + r0)] := (vt2 (a := "xx") (b := "y") (by decide +kernel) (by decide +kernel) (by decide +kernel) h11 hnn)
    rw [upd_upd, merge_kv v7.nd]
    obtain ⟨s9, g9⟩ := one_more s8 n7 g8 v7
    replace eL0 := same_upd (o := .dK (kv [("xx", 1), ("y", 1 + r0)])) n7 _ _ eL0
    generalize upd H9 p7 (.dK (kv [("xx", 1), ("y", 1 + r0)])) = H10 at s9 g9 eL0 ⊢
    refine fun p8 n8 => ⟨_, rfl, upd_same, kv [("xy", 1), ("yx", 1 + r0)], rfl, Nat.le_of_ble_eq_true rfl, ?_⟩
    have v8 : VT c 2 3 [("xy", 1), ("yx", 1 + r0)] := (vt2 (a := "xy") (b := "yx") (by decide +kernel) (by decide +kernel) (by decide +kernel) h11 hnn)
    rw [upd_upd, merge_kv v8.nd]
    obtain ⟨s10, g10⟩ := one_more s9 n8 g9 v8
    replace eL0 := same_upd (o := .dK (kv [("xy", 1), ("yx", 1 + r0)])) n8 _ _ eL0
    generalize upd H10 p8 (.dK (kv [("xy", 1), ("yx", 1 + r0)])) = H11 at s10 g10 eL0 ⊢
    refine ⟨by show 4 ≤ sizeLine; omega, fun L1 mL1 => ?_⟩
    obtain ⟨s11, g11⟩ := one_list (xs := [V.ref p5, V.ref p6, V.ref p7, V.ref p8]) s10 mL1 g10
    replace eL0 := same_upd (o := .lst [V.ref p5, V.ref p6, V.ref p7, V.ref p8]) mL1 _ _ eL0
    have eL1 : (upd H11 L1 (.lst [V.ref p5, V.ref p6, V.ref p7, V.ref p8])) L1 = some (.lst [V.ref p5, V.ref p6, V.ref p7, V.ref p8]) := upd_same
    generalize upd H11 L1 (.lst [V.ref p5, V.ref p6, V.ref p7, V.ref p8]) = H12 at s11 g11 eL0 eL1 ⊢
    refine ⟨L0, L1, _, _, rfl, rfl, eL0, eL1, by show 9 ≤ sizeLine; omega, fun L2 mL2 => ?_⟩
    obtain ⟨s12, g12⟩ := one_list (xs := [V.ref p0, V.ref p1, V.ref p2, V.ref p3, V.ref p4, V.ref p5, V.ref p6, V.ref p7, V.ref p8]) s11 mL2 g11
    have eL2 : (upd H12 L2 (.lst [V.ref p0, V.ref p1, V.ref p2, V.ref p3, V.ref p4, V.ref p5, V.ref p6, V.ref p7, V.ref p8])) L2 = some (.lst [V.ref p0, V.ref p1, V.ref p2, V.ref p3, V.ref p4, V.ref p5, V.ref p6, V.ref p7, V.ref p8]) := upd_same
    generalize hG : upd H12 L2 (.lst ([V.ref p0, V.ref p1, V.ref p2, V.ref p3, V.ref p4] ++ [V.ref p5, V.ref p6, V.ref p7, V.ref p8])) = H13
    have hG2 : upd H12 L2 (.lst [V.ref p0, V.ref p1, V.ref p2, V.ref p3, V.ref p4, V.ref p5, V.ref p6, V.ref p7, V.ref p8]) = H13 := hG
    rw [hG2] at s12 g12 eL2
    refine ⟨_, rfl, ?_⟩
    refine fun p9 n9 => ⟨_, rfl, upd_same, kv [("xy", 1 + r0), ("x", 1), ("", 1)], rfl, Nat.le_of_ble_eq_true rfl, ?_⟩
    have v9 : VT c 2 3 [("xy", 1 + r0), ("x", 1), ("", 1)] := (vt3 (a := "xy") (b := "x") (d := "") (by decide +kernel) (by decide +kernel) (by decide +kernel) (by decide +kernel) hnn h11 h11)
    rw [upd_upd, merge_kv v9.nd]
    obtain ⟨s13, g13⟩ := one_more s12 n9 g12 v9
    replace eL2 := same_upd (o := .dK (kv [("xy", 1 + r0), ("x", 1), ("", 1)])) n9 _ _ eL2
    generalize upd H13 p9 (.dK (kv [("xy", 1 + r0), ("x", 1), ("", 1)])) = H14 at s13 g13 eL2 ⊢
    refine fun p10 n10 => ⟨_, rfl, upd_same, kv [("", 1 + r0)], rfl, Nat.le_of_ble_eq_true rfl, ?_⟩
    have v10 : VT c 2 3 [("", 1 + r0)] := (vt1 (a := "") (by decide +kernel) hnn.1 hnn.2)
    rw [upd_upd, merge_kv v10.nd]
    obtain ⟨s14, g14⟩ := one_more s13 n10 g13 v10
    replace eL2 := same_upd (o := .dK (kv [("", 1 + r0)])) n10 _ _ eL2
    generalize upd H14 p10 (.dK (kv [("", 1 + r0)])) = H15 at s14 g14 eL2 ⊢
    refine fun p11 n11 => ⟨_, rfl, upd_same, kv [("z", 1), ("x", 1 + r0)], rfl, Nat.le_of_ble_eq_true rfl, ?_⟩
    have v11 : VT c 2 3 [("z", 1), ("x", 1 + r0)] := (vt2 (a := "z") (b := "x") (by decide +kernel) (by decide +kernel) (by decide +kernel) h11 hnn)
    rw [upd_upd, merge_kv v11.nd]
    obtain ⟨s15, g15⟩ := one_more s14 n11 g14 v11
    replace eL2 := same_upd (o := .dK (kv [("z", 1), ("x", 1 + r0)])) n11 _ _ eL2
    generalize upd H15 p11 (.dK (kv [("z", 1), ("x", 1 + r0)])) = H16 at s15 g15 eL2 ⊢
    refine ⟨by show 3 ≤ sizeLine; omega, fun L3 mL3 => ?_⟩
    obtain ⟨s16, g16⟩ := one_list (xs := [V.ref p9, V.ref p10, V.ref p11]) s15 mL3 g15
    replace eL2 := same_upd (o := .lst [V.ref p9, V.ref p10, V.ref p11]) mL3 _ _ eL2
    have eL3 : (upd H16 L3 (.lst [V.ref p9, V.ref p10, V.ref p11])) L3 = some (.lst [V.ref p9, V.ref p10, V.ref p11]) := upd_same
    generalize upd H16 L3 (.lst [V.ref p9, V.ref p10, V.ref p11]) = H17 at s16 g16 eL2 eL3 ⊢
    refine ⟨L2, L3, _, _, rfl, rfl, eL2, eL3, by show 12 ≤ sizeLine; omega, fun L4 mL4 => ?_⟩
    obtain ⟨s17, g17⟩ := one_list (xs := [V.ref p0, V.ref p1, V.ref p2, V.ref p3, V.ref p4, V.ref p5, V.ref p6, V.ref p7, V.ref p8, V.ref p9, V.ref p10, V.ref p11]) s16 mL4 g16
    have eL4 : (upd H17 L4 (.lst [V.ref p0, V.ref p1, V.ref p2, V.ref p3, V.ref p4, V.ref p5, V.ref p6, V.ref p7, V.ref p8, V.ref p9, V.ref p10, V.ref p11])) L4 = some (.lst [V.ref p0, V.ref p1, V.ref p2, V.ref p3, V.ref p4, V.ref p5, V.ref p6, V.ref p7, V.ref p8, V.ref p9, V.ref p10, V.ref p11]) := upd_same
    generalize hG : upd H17 L4 (.lst ([V.ref p0, V.ref p1, V.ref p2, V.ref p3, V.ref p4, V.ref p5, V.ref p6, V.ref p7, V.ref p8] ++ [V.ref p9, V.ref p10, V.ref p11])) = H18
    have hG2 : upd H17 L4 (.lst [V.ref p0, V.ref p1, V.ref p2, V.ref p3, V.ref p4, V.ref p5, V.ref p6, V.ref p7, V.ref p8, V.ref p9, V.ref p10, V.ref p11]) = H18 := hG
    rw [hG2] at s17 g17 eL4
    have hL4 : h ≠ L4 := by
      obtain ⟨xs, hx⟩ := hh1.lst
      exact ne_of_none (s16 _ _ hx) mL4
    refine ⟨_, rfl, _, rfl, h, ca, 12, rfl, by decide, by decide, hh1.same s17, fun r Hf hr2 hr3 hhf kf => ?_⟩
    obtain ⟨m, rfl⟩ : ∃ m : Nat, r = m := ⟨r.toNat, (Int.toNat_of_nonneg hr2).symm⟩
    have hm : m < ([p0, p1, p2, p3, p4, p5, p6, p7, p8, p9, p10, p11] : List Addr).length := by show m < 12; omega
    have hd := g17 ([p0, p1, p2, p3, p4, p5, p6, p7, p8, p9, p10, p11][m]) (List.getElem_mem hm)
    obtain ⟨l, h1, h2, h3⟩ := hd
    have em : (([p0, p1, p2, p3, p4, p5, p6, p7, p8, p9, p10, p11] : List Addr).map V.ref)[m]? = some (.ref ([p0, p1, p2, p3, p4, p5, p6, p7, p8, p9, p10, p11][m])) := by
      rw [List.getElem?_map, List.getElem?_eq_getElem hm]
      rfl
    refine ⟨L4, ([p0, p1, p2, p3, p4, p5, p6, p7, p8, p9, p10, p11] : List Addr).map V.ref, m, _, rfl, rfl, SqL.of (kf _ _ eL4 hL4.symm), atI_nat em, ?_⟩
    have hd0 : H [p0, p1, p2, p3, p4, p5, p6, p7, p8, p9, p10, p11][m] = none := by
      cases z : H [p0, p1, p2, p3, p4, p5, p6, p7, p8, p9, p10, p11][m] with
      | none => rfl
      | some u =>
        by_cases nz : [p0, p1, p2, p3, p4, p5, p6, p7, p8, p9, p10, p11][m] = h
        · obtain ⟨xs, hx⟩ := hh1.lst
          rw [nz, hx] at h3
          cases h3
        · rw [k1 _ _ z nz] at h3
          cases h3
    have hne : [p0, p1, p2, p3, p4, p5, p6, p7, p8, p9, p10, p11][m] ≠ h := by
      obtain ⟨xs, hx⟩ := (hh1.same s17).lst
      exact ne_of h1 hx (by intro z; cases z)
    exact q Hf _ l hhf (fun b o e n => kf b o (s17 _ _ (k1 b o e n)) n) hd0 (kf _ _ h1 hne) h2
end
end Fp

set_option Elab.async false
set_option linter.all false
set_option maxRecDepth 100000
set_option maxHeartbeats 4000000
namespace Fp
open PySem PySem.Spec PyProof.Rows L2
section
variable {P : Program} {w : World} {K : PySem.W.Frag} {mg : Str → Option Value} {base : Heap}
def spWoven : Sp := fun vs H Q _ => ∃ (h ca : Addr) (c k : Int), vs = [.ref h, .int c, .int k] ∧ HandAt ca H h ∧ 2 ≤ c ∧ c ≤ 7 ∧ 1 ≤ k ∧ k ≤ 1000 ∧ ∀ H' d l, HandAt ca H' h → But h H H' → H d = none → H' d = some (.dK (kv l)) → VT c 7 120 l → Q (.ref d) H'
abbrev nWoven : List Str := ["_law_hand_here", "_law_clock_here", "_law_most", "_law_found", "_law_turn", "_law_one", "_law_other", "_law_longer", "_law_word_here"]
theorem sc_woven : FnScope nWoven ["_law_hand_here", "_law_clock_here", "_law_most"] (defScope s__law_woven) := ⟨rfl, rfl, rfl, by decide +kernel, rfl, by decide +kernel, by decide +kernel⟩
/-- a new thing stands apart from what stood -/
theorem But.ne {a : Addr} {H H' : Hp} (k : But a H H') {p q : Addr} {o : HO} (hp : H p = some o) (np : p ≠ a) (hq : H' q = none) : p ≠ q := ne_of_none (k _ _ hp np) hq
theorem HandAt.neD {ca : Addr} {H : Hp} {h d : Addr} {kvs : List (Key × V)} (x : HandAt ca H h) (hd : H d = some (.dK kvs)) : d ≠ h := by
  obtain ⟨xs, hx⟩ := x.lst
  exact ne_of hd hx (by intro z; cases z)
theorem ok_woven (T : Top K mg) : Ok P w K mg base 3 "_law_woven" ["_law_hand_here", "_law_clock_here", "_law_most"] spWoven := by
  obtain ⟨fd, F⟩ := fn__law_woven T
  refine ⟨⟨fd, ?_, F.bindsN fun _ _ _ _ _ _ us hl => match us, hl with | [_, _, _], _ => rfl⟩, g__law_woven T, F.kp⟩
  refine F.ok sc_woven (fun vs H Q E h => ?_) (fun cdv A outer s H vs Q E hr h => ?_)
  · obtain ⟨h, ca, c, k, rfl, _⟩ := h
    rfl
  · obtain ⟨h, ca, c, k, rfl, hh, hc2, hc7, hk1, hk2, q⟩ := h
    have nd := sc_woven.nd
    have hs : sizeLine = 16777216 := sizeLine_eq
    have hr1 : Room 1 _ := hr.mono (by decide)
    refine ⟨_, PSs.nox (pss_cons (ps_set (i := 3) nd rfl (Or.inl rfl) (pe_disp (pps_cons pe_str (pe_op op_add pe_int (pc (ok_draw T) hr1 (pa_cons (pv 0) (pa_cons (pe_op op_sub (pv 1) pe_int) pa_nil)))) pps_nil) (by rfl) (by rfl) (fun z => by cases z) (by decide)))
      (pss_cons (ps_for PassesOwn.never rfl (pi_range1 (by rfl) (f_range T) (pa_cons (pe_op op_add pe_int (pc (ok_draw T) hr1 (pa_cons (pv 0) (pa_cons (pv 2) pa_nil)))) pa_nil)) (pg_name (i := 4) nd rfl (Or.inl rfl))
        (pss_cons (ps_set (i := 5) nd rfl (Or.inl rfl) (pc (ok_small T) hr (pa_cons (pv 0) (pa_cons (pv 1) pa_nil))))
        (pss_cons (ps_if (pt_cmpR op_eq (pc (ok_draw T) hr1 (pa_cons (pv 0) (pa_cons pe_int pa_nil))) pe_int (nomark _))
          (pss_cons (ps_set (i := 6) nd rfl (Or.inl rfl) (pc (ok_small T) hr (pa_cons (pv 0) (pa_cons (pv 1) pa_nil))))
          (pss_one (ps_set (i := 5) nd rfl (Or.inl rfl) (pc (ok_prod T) hr (pa_cons (pv 1) (pa_cons (pv 5) (pa_cons (pc (ok_plus T) hr (pa_cons (pv 1) (pa_cons (pc (ok_prod T) hr (pa_cons (pv 1) (pa_cons (pv 6) (pa_cons (pv 5) pa_nil))))
            (pa_cons (pe_disp (pps_cons pe_str pe_int pps_nil) (by rfl) (by rfl) (fun z => by cases z) (by decide)) (pa_cons pe_int pa_nil))))) pa_nil))))))) pss_nil)
        (pss_cons (ps_set (i := 7) nd rfl (Or.inl rfl) (pc (ok_prod T) hr (pa_cons (pv 1) (pa_cons (pv 3) (pa_cons (pv 5) pa_nil)))))
        (pss_one (ps_if (PW.pt (pw_and (pt_chain op_lt op_lt pe_int (pe_callB call_lenD (by rfl) (f_len T) PySem.boot_len (pa_cons (pv 7) pa_nil)) pe_int)
            (pw_and1 (pt_cmpR op_lt (pe_callB (cr_max rfl) (by rfl) (f_max T) (by decide +kernel) (pa_cons (pe_lock (pe_lc (own := [("_law_word_here", 8)]) (g := gName 8) (tt := tYes) rfl nd (pi_keys (pv 7)) (blkOk_by (N := nWoven) (sc := defScope s__law_woven) (by decide +kernel))
              (fun _ _ _ _ _ => pg_name (i := 8) nd rfl (Or.inl rfl)) (fun _ _ _ _ _ => pts_nil) (fun _ _ _ _ _ => pe_callB call_len_str (by rfl) (f_len T) PySem.boot_len (pa_cons (pv 8) pa_nil)))) pa_nil)) pe_int (nomark _)))))
          (pss_one (ps_set (i := 3) nd rfl (Or.inl rfl) (pv 7))) pss_nil))))))
      (pss_one (ps_ret (pv 3))))), ?_⟩
    refine fun F0 hF => ?_
    have nhF : h ≠ F0 := by
      obtain ⟨xs, hx⟩ := hh.lst
      exact ne_of_none hx hF
    have ncF : ca ≠ F0 := by
      obtain ⟨xs, hx⟩ := hh.cells
      exact ne_of_none hx hF
    refine ⟨_, rfl, _, rfl, _, _, rfl, rfl, h, ca, c - 1, rfl, by omega, by omega, hh.same (same_upd hF), fun r0 H1 hr0 hr1' hh1 k1 => ⟨_, _, rfl, rfl, ?_⟩⟩
    have v0 : VT c 2 3 [("", 1 + r0)] := vt1 (a := "") (by decide +kernel) (by omega) (by omega)
    refine ⟨k1 _ _ upd_same nhF.symm, kv [("", 1 + r0)], rfl, Nat.le_of_ble_eq_true rfl, ?_⟩
    rw [merge_kv v0.nd]
    have hh2 : HandAt ca (upd H1 F0 (.dK (kv [("", 1 + r0)]))) h := hh1.off but_upd nhF ncF
    refine ⟨_, rfl, _, rfl, h, ca, k, rfl, by omega, by omega, hh2, fun r1 H2 hr2 hr3 hh3 k2 => ?_⟩
    refine ⟨_, _, rfl, rfl, 1 + r1, rfl, by omega, by omega, ?_⟩
    refine for_it walk_range (fun i σ H' => (∃ (F : Addr) (l : Tb) (v4 v5 v6 v7 v8 : Option V), σ = [some (.ref h), some (.int c), some (.int k), some (.ref F), v4, v5, v6, v7, v8] ∧ H' F = some (.dK (kv l)) ∧ VT c 7 120 l ∧ H F = none) ∧ HandAt ca H' h ∧ But h H H')
      ⟨⟨F0, _, none, none, none, none, none, rfl, k2 _ _ upd_same nhF.symm, v0.mono (by decide) (by decide), hF⟩, hh3, fun b o e n => k2 b o (by rw [upd_ne (ne_of_none e hF)]; exact k1 b o (same_upd hF b o e) n) n⟩ (fun _ _ _ _ _ => trivial) ?_ ?_
    · rintro i x σ Gz G0 hi ⟨⟨F, l, v4, v5, v6, v7, v8, rfl, p1, p2, p3⟩, p4, p5⟩ ⟨rfl, rfl⟩
      have nFh := p4.neD p1
      -- one = small
      refine ⟨_, rfl, _, rfl, h, ca, c, rfl, p4, hc2, hc7, fun G1 d1 l1 hG1 kG1 n1 e1 w1 => ?_⟩
      have nd1h := hG1.neD e1
      have nF1 : F ≠ d1 := ne_of_none p1 n1
      refine ⟨_, rfl, h, ca, 3, rfl, by decide, by decide, hG1, fun r2 G2 ha hb hG2 kG2 => ?_⟩
      have e1' := kG2 _ _ e1 nd1h
      have pF2 := kG2 _ _ (kG1 _ _ p1 nFh) nFh
      refine ⟨rfl, _, rfl, ?_⟩
      refine ite2 (fun hz => ?_) (fun hz => ?_)
      case' refine_2 =>
        have a1 : VT c 6 36 l1 := w1.mono (by decide) (by decide)
        have a2 := e1'
        have a3 := pF2
        have a4 := hG2
        have a5 : But h G0 G2 := kG1.trans kG2
        have a6 := nF1
      case' refine_1 =>
        refine ⟨_, rfl, _, rfl, h, ca, c, rfl, hG2, hc2, hc7, fun G3 d2 l2 hG3 kG3 n2 e2 w2 => ?_⟩
        have n12 : d1 ≠ d2 := ne_of_none e1' n2
        have e1'' := kG3 _ _ e1' nd1h
        refine ⟨_, rfl, _, rfl, _, rfl, _, rfl, _, rfl, _, rfl, c, d2, d1, 2, 2, l2, l1, rfl, by omega, hc7, n12.symm, e2, e1'', w2.mono (by decide) (by decide), w1.mono (by decide) (by decide), by decide, by decide, fun G4 d3 s4 n3 e3 => ?_⟩
        have w3 : VT c 4 9 (prodM c l2 l1) := vt_prodM (by omega) w2 w1
        refine fun p4' n4 => ⟨upd_same, kv [("", 1)], rfl, by decide, ?_⟩
        have w4 : VT c 2 3 [("", 1)] := vt1 (a := "") (by decide +kernel) (by decide) (by omega)
        rw [upd_upd, merge_kv w4.nd]
        have s5 := same_upd (o := .dK (kv [("", 1)])) n4
        refine ⟨c, d3, p4', 1, _, _, rfl, by omega, hc7, s5 _ _ e3, upd_same, w4.nd, w4.nu, Nat.le_trans w3.ln (by decide), by show 1 ≤ 100000; decide, fun G6 d5 s6 n5 e5 => ?_⟩
        have w5 : VT c 4 12 (plusM c (prodM c l2 l1) [("", 1)] 1) := vt_plusM (by omega) w3 (w4.mono (by decide) (Nat.le_refl _)) 1
        have g1 := s6 _ _ (s5 _ _ (s4 _ _ e1''))
        have n15 : d1 ≠ d5 := ne_of_none (s5 _ _ (s4 _ _ e1'')) n5
        refine ⟨c, d1, d5, 2, 4, l1, _, rfl, by omega, hc7, n15, g1, e5, w1.mono (by decide) (by decide), w5.mono (by decide) (by decide), by decide, by decide, fun G7 d6 s7 n6 e6 => ?_⟩
        have hG7 : HandAt ca G7 h := (((hG3.same s4).same s5).same s6).same s7
        have kG7 : But h G2 G7 := (((kG3.trans (But.of s4)).trans (But.of s5)).trans (But.of s6)).trans (But.of s7)
        have a1 : VT c 6 36 (prodM c l1 (plusM c (prodM c l2 l1) [("", 1)] 1)) := vt_prodM (by omega) w1 w5
        have a2 := e6
        have a3 : G7 F = some (.dK (kv l)) := s7 _ _ (s6 _ _ (s5 _ _ (s4 _ _ (kG3 _ _ pF2 nFh))))
        have a4 := hG7
        have a5 : But h G0 G7 := (kG1.trans kG2).trans kG7
        have a6 : F ≠ d6 := ne_of_none (s6 _ _ (s5 _ _ (s4 _ _ (kG3 _ _ pF2 nFh)))) n6
      all_goals
        refine ⟨_, rfl, _, rfl, _, rfl, c, F, _, 7, 6, l, _, rfl, by omega, hc7, a6, a3, a2, p2.mono (by decide) (by decide), a1.mono (by decide) (by decide), by decide, by decide, fun G8 d7 s8 n7 e7 => ?_⟩
        obtain ⟨LL, eLL, w7⟩ : ∃ LL, G8 d7 = some (.dK (kv LL)) ∧ VT c 13 (120 * 36) LL := ⟨_, e7, vt_prodM (show 0 < c by omega) p2 a1⟩
        clear e7
        have hG8 := a4.same s8
        have kG8 : But h H G8 := (p5.trans a5).trans (But.of s8)
        have n7H : H d7 = none := by
          cases z : H d7 with
          | none => rfl
          | some u =>
            by_cases nz : d7 = h
            · exact absurd nz (hG8.neD eLL)
            · have := (p5.trans a5) _ _ z nz
              rw [n7] at this
              cases this
        refine ⟨_, rfl, d7, _, rfl, eLL, _, _, rfl, rfl, _, rfl, ?_⟩
        refine ite2 (fun hz1 => ?_) (fun hz1 => ?_)
        · refine ⟨_, _, rfl, rfl, _, rfl, ?_⟩
          refine ite2 (fun hz2 => ?_) (fun hz2 => ?_)
          · have hl1 := of_decide_eq_true hz1
            have hl2 := of_decide_eq_true hz2
            rw [kv_len] at hl1 hl2
            refine ⟨d7, _, eLL, trivial, fun od => ?_⟩
            refine ⟨_, rfl, d7, od, rfl, .inl ⟨_, upd_same, fun D hD => ?_⟩⟩
            have nD : D ≠ d7 := fun e => by
              rw [e, upd_same] at hD
              cases hD
            have hD0 : G8 D = none := by
              rw [upd_ne nD] at hD
              exact hD
            refine lc_it walk_keys (fun i H' => H' D = some (.lst ((LL.take i).map fun p => V.int p.1.length)) ∧ But d7 G8 H' ∧ H' d7 = some (.frz od (.dK (kv LL)))) ⟨upd_same, ?_, ?_⟩ (fun i H' _ hP => hP.2.2) ?_ ?_
            · intro b o z n
              rw [upd_ne (ne_of_none z hD0), upd_ne n]
              exact z
            · rw [upd_ne nD.symm]
              exact upd_same
            · rintro j x Ha Hb hj ⟨r1, r2, r3⟩ ⟨rfl, kk, vv, ee, rfl⟩
              obtain ⟨p, ep, rfl, rfl⟩ := kv_at ee
              have hp := List.mem_of_getElem? ep
              have hpl := (w7.wd p hp).2
              rw [kv_len] at hj
              refine ⟨rfl, ?_⟩
              refine ⟨_, rfl, p.1, rfl, by omega, ?_⟩
              refine ⟨_, r1, ?_, ?_, ?_, ?_⟩
              · rw [List.length_map, List.length_take]
                omega
              · rw [upd_same, List.take_add_one, ep, List.map_append]
                rfl
              · intro b o z n
                rw [upd_ne (ne_of_none z hD0)]
                exact r2 b o z n
              · rw [upd_ne nD.symm]
                exact r3
            · rintro H' ⟨r1, r2, r3⟩
              rw [kv_len, List.take_length] at r1
              refine ⟨r3, D, LL.map (fun p => (p.1.length : Int)), rfl, .inl (.inl ?_), by rw [List.length_map]; omega, fun mx hmx hle => ?_⟩
              · rw [upd_ne nD, List.map_map]
                exact r1
              · have base : Same G8 (upd H' d7 (.dK (kv LL))) := fun b o z => by
                  by_cases n : b = d7
                  · rw [n, upd_same, ← eLL, ← n, z]
                  · rw [upd_ne n]
                    exact r2 b o z n
                refine ⟨_, _, rfl, rfl, _, rfl, ?_⟩
                refine ite2 (fun hz3 => ?_) (fun hz3 => ?_)
                · have hm8 := of_decide_eq_true hz3
                  refine ⟨_, rfl, ⟨d7, _, _, _, _, _, _, rfl, upd_same, ?_, n7H⟩, hG8.same base, kG8.trans (But.of base)⟩
                  refine w7.of (fun p hp => ?_) (by omega)
                  have := hle (p.1.length : Int) (List.mem_map.mpr ⟨p, hp, rfl⟩)
                  omega
                · exact ⟨⟨F, l, _, _, _, _, _, rfl, base _ _ (s8 _ _ a3), p2, p3⟩, hG8.same base, kG8.trans (But.of base)⟩
          · exact ⟨⟨F, l, _, _, _, _, _, rfl, s8 _ _ a3, p2, p3⟩, hG8, kG8⟩
        · refine ⟨_, rfl, ?_⟩
          exact ⟨⟨F, l, _, _, _, _, _, rfl, s8 _ _ a3, p2, p3⟩, hG8, kG8⟩
    · rintro σ H' ⟨⟨F, l, v4, v5, v6, v7, v8, rfl, p1, p2, p3⟩, p4, p5⟩
      exact ⟨_, rfl, q H' F l p4 p5 p3 p1 p2⟩
end
end Fp

set_option Elab.async false
set_option linter.all false
set_option maxRecDepth 100000
set_option maxHeartbeats 4000000
namespace Fp
open PySem PySem.Spec PyProof.Rows L2
/-! ### the order of words: total, no two alike -/
theorem leR_total : PySem.W.TotalLe leR := PySem.W.sortLe_total (listOrd itemOrd) false fun b => PySem.W.keyToks (rk b)
theorem rk_inj {a b : Str} (h : PySem.W.keyToks (rk a) = PySem.W.keyToks (rk b)) : a = b := by
  unfold rk at h
  simp only [PySem.W.keyToks, PySem.W.keyToksAll] at h
  have : a.cps.toList = b.cps.toList := by simp at h; rw [h.2]
  exact PySem.W.str_of_cps this
theorem leR_anti {a b : Str} (h1 : leR a b = true) (h2 : leR b a = true) : a = b := by
  have e1 : PySem.W.dataLt (rk b) (rk a) = false := by
    have : (!PySem.W.dataLt (rk b) (rk a)) = true := h1
    simpa using this
  have e2 : PySem.W.dataLt (rk a) (rk b) = false := by
    have : (!PySem.W.dataLt (rk a) (rk b)) = true := h2
    simpa using this
  exact rk_inj ((listOrd itemOrd).total _ _ e2 e1)
theorem ord_perm {l m : List Str} (h : l.Perm m) : l.mergeSort leR = m.mergeSort leR :=
  List.Perm.eq_of_pairwise (le := fun a b => leR a b = true) (fun a b _ _ h1 h2 => leR_anti h1 h2) (PySem.W.sort_pairwise leR_total l) (PySem.W.sort_pairwise leR_total m)
    (((List.mergeSort_perm l leR).trans h).trans (List.mergeSort_perm m leR).symm)
/-! ### tables in order -/
theorem num_find {l : Tb} (h : Nd l) {p : Str × Int} (hp : p ∈ l) : num l p.1 = p.2 := by
  obtain ⟨i, hi, e⟩ := List.mem_iff_getElem.mp hp
  exact num_of h (i := i) (by rw [List.getElem?_eq_getElem hi, e])
theorem num_not {l : Tb} {x : Str} (h : x ∉ l.map (·.1)) : num l x = 0 := by
  refine (valV_no ?_).2
  cases e : has l x with
  | false => rfl
  | true => exact absurd (has_iff.mp e) h
theorem canon_keys (l : Tb) : (canon l).map (·.1) = ordW l := by
  unfold canon
  rw [List.map_map]
  exact List.map_id' _
theorem canon_nd {l : Tb} (h : Nd l) : Nd (canon l) := by
  unfold Nd
  rw [canon_keys]
  exact (List.mergeSort_perm _ _).nodup_iff.mpr h
theorem canon_mem {l : Tb} {p : Str × Int} (h : p ∈ canon l) : p.1 ∈ l.map (·.1) ∧ p.2 = num l p.1 := by
  unfold canon at h
  obtain ⟨x, hx, rfl⟩ := List.mem_map.mp h
  exact ⟨ordW_mem.mp hx, rfl⟩
theorem canon_num {l : Tb} (h : Nd l) (x : Str) : num (canon l) x = num l x := by
  by_cases hx : x ∈ l.map (·.1)
  · have hm : (x, num l x) ∈ canon l := by
      unfold canon
      exact List.mem_map.mpr ⟨x, ordW_mem.mpr hx, rfl⟩
    exact num_find (canon_nd h) hm
  · rw [num_not hx, num_not]
    rw [canon_keys]
    exact fun z => hx (ordW_mem.mp z)
/-- the same words with the same numbers: the same in order -/
theorem canon_eq {l m : Tb} (hl : Nd l) (hm : Nd m) (hk : ∀ x, x ∈ l.map (·.1) ↔ x ∈ m.map (·.1)) (hn : ∀ x, num l x = num m x) : canon l = canon m := by
  have e : ordW l = ordW m := ord_perm ((List.perm_ext_iff_of_nodup hl hm).mpr hk)
  unfold canon
  rw [e]
  exact List.map_congr_left fun x _ => by rw [hn x]
theorem canon_canon {l : Tb} (h : Nd l) : canon (canon l) = canon l :=
  canon_eq (canon_nd h) h (fun x => by rw [canon_keys]; exact ordW_mem) (canon_num h)
theorem vt_canon {c : Int} {m k : Nat} {l : Tb} (h : VT c m k l) : VT c m k (canon l) := by
  have key : ∀ p ∈ canon l, p ∈ l := fun p hp => by
    obtain ⟨h1, h2⟩ := canon_mem hp
    obtain ⟨q, hq, e⟩ := List.mem_map.mp h1
    have := num_find h.nd hq
    have : p = q := by
      obtain ⟨a, b⟩ := p
      obtain ⟨a', b'⟩ := q
      simp only at e h2 this
      subst e
      rw [h2, this]
    rw [this]
    exact hq
  refine ⟨canon_nd h.nd, fun p hp => h.nu p (key p hp), fun p hp => h.wd p (key p hp), ?_⟩
  have : (canon l).length = l.length := by
    unfold canon
    rw [List.length_map, ordW_len]
  rw [this]
  exact h.ln
/-- a number changed: not the same -/
theorem canon_ne {l m : Tb} (hl : Nd l) (hm : Nd m) {x : Str} (h : num l x ≠ num m x) : canon l ≠ canon m := fun e => h (by rw [← canon_num hl, ← canon_num hm, e])
theorem num_put {l : Tb} (x : Str) (n : Int) : num (putT l x n) x = n := by
  unfold putT
  cases e : has l x with
  | true =>
    rw [if_pos rfl]
    unfold num
    have : ∀ r : Tb, has r x = true → ((r.map fun p => if p.1 = x then (p.1, n) else p).find? fun p => decide (p.1 = x)).map (·.2) = some n := by
      intro r
      induction r with
      | nil => intro h; cases h
      | cons p r ih =>
        intro h
        by_cases hp : p.1 = x
        · rw [List.map_cons, if_pos hp, List.find?_cons_of_pos (by simpa using hp)]
          rfl
        · rw [List.map_cons, if_neg hp, List.find?_cons_of_neg (by simpa using hp)]
          refine ih ?_
          unfold has at h ⊢
          rw [List.any_cons] at h
          simpa [hp] using h
    rw [this l e]
    rfl
  | false =>
    rw [if_neg Bool.false_ne_true]
    unfold num
    rw [List.find?_append]
    have : l.find? (fun p => decide (p.1 = x)) = none := by
      rw [has_find] at e
      cases z : l.find? fun p => decide (p.1 = x) with
      | none => rfl
      | some p => rw [z] at e; cases e
    rw [this]
    simp
theorem num_drop {l : Tb} (x : Str) : num (dropT l x) x = 0 := by
  refine num_not fun h => ?_
  obtain ⟨p, hp, e⟩ := List.mem_map.mp h
  have := (List.mem_filter.mp hp).2
  simp [e] at this
theorem num_putM (c : Int) (l : Tb) (x : Str) (n : Int) : num (putM c l x n) x = (num l x + n) % c := by
  unfold putM
  split
  · rename_i h
    rw [num_drop, h]
  · exact num_put x _
theorem num_range {c : Int} {m k : Nat} {l : Tb} (hc : 0 < c) (h : VT c m k l) (x : Str) : 0 ≤ num l x ∧ num l x < c := by
  by_cases hx : x ∈ l.map (·.1)
  · obtain ⟨p, hp, rfl⟩ := List.mem_map.mp hx
    rw [num_find h.nd hp]
    have := h.nu p hp
    omega
  · rw [num_not hx]
    omega
/-- words put in backward -/
theorem puts_new : ∀ (xs : List Str) (f : Str → Int) (a : Tb), (a.map (·.1) ++ xs).Nodup → xs.foldl (fun a x => putT a x (f x)) a = a ++ xs.map fun x => (x, f x)
  | [], f, a, _ => by simp
  | x :: r, f, a, h => by
    have h1 : x ∉ a.map (·.1) := fun z => by
      have := (List.nodup_append.mp h).2.2 x z x List.mem_cons_self
      exact this rfl
    have e : putT a x (f x) = a ++ [(x, f x)] := by
      unfold putT
      have : has a x = false := by
        cases z : has a x with
        | false => rfl
        | true => exact absurd (has_iff.mp z) h1
      rw [this, if_neg Bool.false_ne_true]
    rw [List.foldl_cons, e, puts_new r f _ (by rw [List.map_append, List.append_assoc]; exact h), List.map_cons, List.append_assoc]
    rfl
def backT (l : Tb) : Tb := (ordW l).reverse.map fun x => (x, num l x)
theorem backT_keys (l : Tb) : (backT l).map (·.1) = (ordW l).reverse := by
  unfold backT
  rw [List.map_map]
  exact List.map_id' _
theorem ordW_nd {l : Tb} (h : Nd l) : (ordW l).Nodup := (List.mergeSort_perm _ _).nodup_iff.mpr h
theorem backT_nd {l : Tb} (h : Nd l) : Nd (backT l) := by
  unfold Nd
  rw [backT_keys]
  exact (List.reverse_perm _).nodup_iff.mpr (ordW_nd h)
theorem backT_num {l : Tb} (h : Nd l) (x : Str) : num (backT l) x = num l x := by
  by_cases hx : x ∈ l.map (·.1)
  · have hm : (x, num l x) ∈ backT l := by
      unfold backT
      exact List.mem_map.mpr ⟨x, List.mem_reverse.mpr (ordW_mem.mpr hx), rfl⟩
    exact num_find (backT_nd h) hm
  · rw [num_not hx, num_not]
    rw [backT_keys]
    exact fun z => hx (ordW_mem.mp (List.mem_reverse.mp z))
theorem backT_canon {l : Tb} (h : Nd l) : canon (backT l) = canon l :=
  canon_eq (backT_nd h) h (fun x => by rw [backT_keys, List.mem_reverse]; exact ordW_mem) (backT_num h)
theorem vt_back {c : Int} {m k : Nat} {l : Tb} (h : VT c m k l) : VT c m k (backT l) := by
  have key : ∀ p ∈ backT l, p ∈ l := fun p hp => by
    unfold backT at hp
    obtain ⟨x, hx, rfl⟩ := List.mem_map.mp hp
    obtain ⟨q, hq, e⟩ := List.mem_map.mp (ordW_mem.mp (List.mem_reverse.mp hx))
    have := num_find h.nd hq
    obtain ⟨a, b⟩ := q
    simp only at e this
    subst e
    rw [this]
    exact hq
  refine ⟨backT_nd h.nd, fun p hp => h.nu p (key p hp), fun p hp => h.wd p (key p hp), ?_⟩
  unfold backT
  rw [List.length_map, List.length_reverse, ordW_len]
  exact h.ln
section
variable {P : Program} {w : World} {K : PySem.W.Frag} {mg : Str → Option Value} {base : Heap}
def spSome : Sp := fun vs H Q _ => ∃ (h ca : Addr) (c : Int), vs = [.ref h, .int c] ∧ HandAt ca H h ∧ 2 ≤ c ∧ c ≤ 7 ∧ ∀ H' d l, HandAt ca H' h → But h H H' → H d = none → H' d = some (.dK (kv l)) → VT c 7 120 l → Q (.ref d) H'
abbrev nSome : List Str := ["_law_hand_here", "_law_clock_here", "_law_kind"]
theorem sc_some : FnScope nSome ["_law_hand_here", "_law_clock_here"] (defScope s__law_some) := ⟨rfl, rfl, rfl, by decide +kernel, rfl, by decide +kernel, by decide +kernel⟩
theorem ok_some (T : Top K mg) : Ok P w K mg base 5 "_law_some" ["_law_hand_here", "_law_clock_here"] spSome := by
  obtain ⟨fd, F⟩ := fn__law_some T
  refine ⟨⟨fd, ?_, F.bindsN fun _ _ _ _ _ _ us hl => match us, hl with | [_, _], _ => rfl⟩, g__law_some T, F.kp⟩
  refine F.ok sc_some (fun vs H Q E h => ?_) (fun cdv A outer s H vs Q E hr h => ?_)
  · obtain ⟨h, ca, c, rfl, _⟩ := h
    rfl
  · obtain ⟨h, ca, c, rfl, hh, hc2, hc7, q⟩ := h
    have nd := sc_some.nd
    have hr1 : Room 1 _ := hr.mono (by decide)
    have hr2 : Room 2 _ := hr.mono (by decide)
    have hr3 : Room 3 _ := hr.mono (by decide)
    refine ⟨_, PSs.nox (pss_cons (ps_set (i := 2) nd rfl (Or.inl rfl) (pc (ok_draw T) hr1 (pa_cons (pv 0) (pa_cons pe_int pa_nil))))
      (pss_cons (ps_if (pt_cmpR op_eq (pv 2) pe_int (nomark _)) (pss_one (ps_ret (pc (ok_lot T) hr (pa_cons (pv 0) (pa_cons (pv 1) (pa_cons pe_str (pa_cons pe_int (pa_cons pe_int pa_nil)))))))) pss_nil)
      (pss_cons (ps_if (pt_cmpR op_eq (pv 2) pe_int (nomark _)) (pss_one (ps_ret (pc (ok_lot T) hr (pa_cons (pv 0) (pa_cons (pv 1) (pa_cons pe_str (pa_cons pe_int (pa_cons pe_int pa_nil)))))))) pss_nil)
      (pss_cons (ps_if (pt_cmpR op_eq (pv 2) pe_int (nomark _)) (pss_one (ps_ret (pc (ok_small T) hr2 (pa_cons (pv 0) (pa_cons (pv 1) pa_nil))))) pss_nil)
      (pss_one (ps_ret (pc (ok_woven T) hr3 (pa_cons (pv 0) (pa_cons (pv 1) (pa_cons pe_int pa_nil)))))))))), ?_⟩
    refine ⟨_, rfl, h, ca, 6, rfl, by decide, by decide, hh, fun r H1 hr0 hr1' hh1 k1 => ?_⟩
    have up : ∀ {H' : Hp} {d : Addr} {kvs : List (Key × V)}, HandAt ca H' h → H1 d = none → H' d = some (.dK kvs) → H d = none := fun {H' d kvs} hh' hd e => by
      cases z : H d with
      | none => rfl
      | some u =>
        by_cases nz : d = h
        · exact absurd nz (hh'.neD e)
        · rw [k1 _ _ z nz] at hd
          cases hd
    refine ⟨_, rfl, rfl, _, rfl, ite2 (fun _ => ?_) (fun _ => ?_)⟩
    · exact ⟨_, rfl, _, rfl, h, ca, c, "xy", 3, 6, rfl, hh1, hc2, hc7, by decide +kernel, by decide +kernel, by decide +kernel, by decide, by decide, fun H2 d l h2 k2 n2 e2 v2 => q H2 d l h2 (k1.trans k2) (up h2 n2 e2) e2 (v2.mono (by decide) (by decide))⟩
    refine ⟨_, rfl, rfl, _, rfl, ite2 (fun _ => ?_) (fun _ => ?_)⟩
    · exact ⟨_, rfl, _, rfl, h, ca, c, "xyz", 4, 5, rfl, hh1, hc2, hc7, by decide +kernel, by decide +kernel, by decide +kernel, by decide, by decide, fun H2 d l h2 k2 n2 e2 v2 => q H2 d l h2 (k1.trans k2) (up h2 n2 e2) e2 (v2.mono (by decide) (by decide))⟩
    refine ⟨_, rfl, rfl, _, rfl, ite2 (fun _ => ?_) (fun _ => ?_)⟩
    · exact ⟨_, rfl, _, rfl, h, ca, c, rfl, hh1, hc2, hc7, fun H2 d l h2 k2 n2 e2 v2 => q H2 d l h2 (k1.trans k2) (up h2 n2 e2) e2 (v2.mono (by decide) (by decide))⟩
    · exact ⟨_, rfl, _, rfl, h, ca, c, 3, rfl, hh1, hc2, hc7, by decide, by decide, fun H2 d l h2 k2 n2 e2 v2 => q H2 d l h2 (k1.trans k2) (up h2 n2 e2) e2 v2⟩
end
end Fp

set_option Elab.async false
set_option linter.all false
set_option maxRecDepth 100000
set_option maxHeartbeats 4000000
namespace Fp
open PySem PySem.Spec PyProof.Rows L2
/-! ### sums of numbers by words -/
def tot (es : Tb) (x : Str) : Int := (es.map fun p => if p.1 = x then p.2 else 0).sum
theorem tot_nil (x : Str) : tot [] x = 0 := rfl
theorem tot_cons (p : Str × Int) (r : Tb) (x : Str) : tot (p :: r) x = (if p.1 = x then p.2 else 0) + tot r x := by
  unfold tot
  rw [List.map_cons, List.sum_cons]
theorem tot_app (a b : Tb) (x : Str) : tot (a ++ b) x = tot a x + tot b x := by
  induction a with
  | nil => rw [List.nil_append, tot_nil, Int.zero_add]
  | cons p r ih => rw [List.cons_append, tot_cons, tot_cons, ih, Int.add_assoc]
theorem tot_not {l : Tb} {x : Str} (h : x ∉ l.map (·.1)) : tot l x = 0 := by
  induction l with
  | nil => rfl
  | cons p r ih =>
    rw [tot_cons, if_neg (fun z : p.1 = x => h (by rw [← z]; exact List.mem_cons_self)), ih (fun z => h (List.mem_cons_of_mem _ z)), Int.zero_add]
theorem num_cons (p : Str × Int) (r : Tb) (x : Str) : num (p :: r) x = if p.1 = x then p.2 else num r x := by
  unfold num
  by_cases h : p.1 = x
  · rw [List.find?_cons_of_pos (by simpa using h), if_pos h]
    rfl
  · rw [List.find?_cons_of_neg (by simpa using h), if_neg h]
theorem tot_num {l : Tb} (h : Nd l) (x : Str) : tot l x = num l x := by
  induction l with
  | nil => rfl
  | cons p r ih =>
    have h' : (p.1 :: r.map (·.1)).Nodup := h
    obtain ⟨h1, h2⟩ := List.nodup_cons.mp h'
    rw [tot_cons, num_cons]
    by_cases e : p.1 = x
    · rw [if_pos e, if_pos e, tot_not (e ▸ h1), Int.add_zero]
    · rw [if_neg e, if_neg e, Int.zero_add, ih h2]
theorem num_put_ne {l : Tb} {x y : Str} (n : Int) (h : x ≠ y) : num (putT l x n) y = num l y := by
  unfold putT
  cases has l x with
  | true =>
    rw [if_pos rfl]
    induction l with
    | nil => rfl
    | cons p r ih =>
      rw [List.map_cons, num_cons, num_cons, ih]
      by_cases e : p.1 = x
      · rw [if_pos e]
        show (if p.1 = y then n else num r y) = _
        rw [if_neg (fun z => h (e ▸ z)), if_neg (fun z => h (e ▸ z))]
      · rw [if_neg e]
  | false =>
    rw [if_neg Bool.false_ne_true]
    induction l with
    | nil =>
      rw [List.nil_append, num_cons, if_neg h]
    | cons p r ih => rw [List.cons_append, num_cons, num_cons, ih]
theorem num_drop_ne {l : Tb} {x y : Str} (h : x ≠ y) : num (dropT l x) y = num l y := by
  unfold dropT
  induction l with
  | nil => rfl
  | cons p r ih =>
    by_cases e : p.1 = x
    · rw [List.filter_cons_of_neg (by simpa using e), ih, num_cons, if_neg (fun z => h (e ▸ z))]
    · rw [List.filter_cons_of_pos (by simpa using e), num_cons, num_cons, ih]
theorem num_putM_ne (c : Int) {l : Tb} {x y : Str} (n : Int) (h : x ≠ y) : num (putM c l x n) y = num l y := by
  unfold putM
  split
  · exact num_drop_ne h
  · exact num_put_ne _ h
/-- the law's putting, entry by entry -/
theorem num_foldM {c : Int} : ∀ (es : Tb) (a : Tb) (x : Str), num (es.foldl (fun a p => putM c a p.1 p.2) a) x % c = (num a x + tot es x) % c
  | [], a, x => by rw [tot_nil, Int.add_zero]; rfl
  | p :: r, a, x => by
    rw [List.foldl_cons, num_foldM r, tot_cons]
    by_cases e : p.1 = x
    · subst e
      rw [num_putM, if_pos rfl, Int.emod_add_emod, Int.add_assoc]
    · rw [num_putM_ne _ _ e, if_neg e, Int.zero_add]
/-- laying to, entry by entry -/
def addT (es a : Tb) : Tb := es.foldl (fun a p => putT a p.1 (num a p.1 + p.2)) a
theorem num_addT : ∀ (es a : Tb) (x : Str), num (addT es a) x = num a x + tot es x
  | [], a, x => by rw [tot_nil, Int.add_zero]; rfl
  | p :: r, a, x => by
    have e0 : addT (p :: r) a = addT r (putT a p.1 (num a p.1 + p.2)) := rfl
    rw [e0, num_addT r, tot_cons]
    by_cases e : p.1 = x
    · subst e
      rw [num_put, if_pos rfl, Int.add_assoc]
    · rw [num_put_ne _ e, if_neg e, Int.zero_add]
theorem nd_addT : ∀ (es a : Tb), Nd a → Nd (addT es a)
  | [], a, h => h
  | p :: r, a, h => nd_addT r _ (nd_put h _ _)
theorem len_addT : ∀ (es a : Tb), (addT es a).length ≤ a.length + es.length
  | [], a => Nat.le_refl _
  | p :: r, a => by
    have h1 := len_addT r (putT a p.1 (num a p.1 + p.2))
    have h2 := len_put a p.1 (num a p.1 + p.2)
    have e0 : addT (p :: r) a = addT r (putT a p.1 (num a p.1 + p.2)) := rfl
    rw [e0, List.length_cons]
    omega
theorem key_put {l : Tb} {x : Str} {n : Int} {q : Str × Int} (h : q ∈ putT l x n) : q.1 = x ∨ ∃ p ∈ l, p.1 = q.1 := by
  rcases mem_put h with rfl | h
  · exact .inl rfl
  · exact .inr ⟨q, h, rfl⟩
theorem key_addT : ∀ (es a : Tb) (q : Str × Int), q ∈ addT es a → (∃ p ∈ a, p.1 = q.1) ∨ ∃ p ∈ es, p.1 = q.1
  | [], a, q, h => .inl ⟨q, h, rfl⟩
  | p :: r, a, q, h => by
    rcases key_addT r _ q h with ⟨p', h1, h2⟩ | ⟨p', h1, h2⟩
    · rcases key_put h1 with e | ⟨p2, h3, h4⟩
      · exact .inr ⟨p, List.mem_cons_self, e ▸ h2⟩
      · exact .inl ⟨p2, h3, h4.trans h2⟩
    · exact .inr ⟨p', List.mem_cons_of_mem _ h1, h2⟩
/-- tidied -/
def tidyM (c : Int) (l : Tb) : Tb := (l.filter fun p => decide (p.2 % c ≠ 0)).map fun p => (p.1, p.2 % c)
theorem tidy_keys {c : Int} {l : Tb} {q : Str × Int} (h : q ∈ tidyM c l) : ∃ p ∈ l, q = (p.1, p.2 % c) ∧ p.2 % c ≠ 0 := by
  unfold tidyM at h
  obtain ⟨p, hp, rfl⟩ := List.mem_map.mp h
  obtain ⟨h1, h2⟩ := List.mem_filter.mp hp
  exact ⟨p, h1, rfl, of_decide_eq_true h2⟩
theorem tidy_nd {c : Int} {l : Tb} (h : Nd l) : Nd (tidyM c l) := by
  unfold Nd tidyM
  rw [List.map_map]
  have : ((fun p : Str × Int => p.1) ∘ fun p : Str × Int => (p.1, p.2 % c)) = fun p => p.1 := rfl
  rw [this]
  exact (List.Sublist.map _ List.filter_sublist).nodup h
theorem tidy_len {c : Int} {l : Tb} : (tidyM c l).length ≤ l.length := by
  unfold tidyM
  rw [List.length_map]
  exact List.length_filter_le _ _
theorem tidy_rg {c : Int} {l : Tb} (hc : 0 < c) : ∀ q ∈ tidyM c l, 1 ≤ q.2 ∧ q.2 < c := fun q hq => by
  obtain ⟨p, _, rfl, h⟩ := tidy_keys hq
  have h1 := Int.emod_nonneg p.2 (show c ≠ 0 by omega)
  have h2 := Int.emod_lt_of_pos p.2 hc
  show 1 ≤ p.2 % c ∧ p.2 % c < c
  omega
theorem num_tidy {c : Int} {l : Tb} (h : Nd l) (x : Str) : num (tidyM c l) x = num l x % c := by
  unfold tidyM
  induction l with
  | nil => rfl
  | cons p r ih =>
    have h' : (p.1 :: r.map (·.1)).Nodup := h
    obtain ⟨h1, h2⟩ := List.nodup_cons.mp h'
    have ih := ih h2
    rw [num_cons]
    by_cases e : p.2 % c = 0
    · rw [List.filter_cons_of_neg (by simpa using e), ih]
      by_cases e2 : p.1 = x
      · rw [if_pos e2, e, num_not (e2 ▸ h1)]
        rfl
      · rw [if_neg e2]
    · rw [List.filter_cons_of_pos (by simpa using e), List.map_cons, num_cons]
      by_cases e2 : p.1 = x
      · rw [if_pos e2, if_pos e2]
      · rw [if_neg e2, if_neg e2, ih]
theorem vt_tidy {c : Int} {m : Nat} {l : Tb} (hc : 0 < c) (h : Nd l) (hw : ∀ p ∈ l, xyz p.1 ∧ p.1.length ≤ m) : VT c m l.length (tidyM c l) :=
  ⟨tidy_nd h, tidy_rg hc, fun q hq => by
    obtain ⟨p, hp, rfl, _⟩ := tidy_keys hq
    exact hw p hp, tidy_len⟩
/-! ### two tables with the same numbers are the same in order -/
theorem rg_key {l : Tb} (h : Nd l) (hr : ∀ p ∈ l, 1 ≤ p.2) (x : Str) : x ∈ l.map (·.1) ↔ num l x ≠ 0 := by
  constructor
  · intro hx
    obtain ⟨p, hp, rfl⟩ := List.mem_map.mp hx
    rw [num_find h hp]
    have := hr p hp
    omega
  · intro hn
    by_cases hx : x ∈ l.map (·.1)
    · exact hx
    · exact absurd (num_not hx) hn
theorem canon_ext {l m : Tb} (hl : Nd l) (hm : Nd m) (rl : ∀ p ∈ l, 1 ≤ p.2) (rm : ∀ p ∈ m, 1 ≤ p.2) (h : ∀ x, num l x = num m x) : canon l = canon m :=
  canon_eq hl hm (fun x => by rw [rg_key hl rl, rg_key hm rm, h x]) h
theorem num_mod {c : Int} {m k : Nat} {l : Tb} (hc : 0 < c) (h : VT c m k l) (x : Str) : num l x % c = num l x :=
  Int.emod_eq_of_lt (num_range hc h x).1 (num_range hc h x).2
/-- tables by a clock -/
theorem vt_ext {c : Int} {m k m' k' : Nat} {l l' : Tb} (h : VT c m k l) (h' : VT c m' k' l') (e : ∀ x, num l x = num l' x) : canon l = canon l' :=
  canon_ext h.nd h'.nd (fun p hp => (h.nu p hp).1) (fun p hp => (h'.nu p hp).1) e
/-! ### what the law's sums and products have -/
def scl (f : Int) (l : Tb) : Tb := l.map fun p => (p.1, f * p.2)
theorem tot_scl (f : Int) (l : Tb) (x : Str) : tot (scl f l) x = f * tot l x := by
  induction l with
  | nil => rw [tot_nil, Int.mul_zero]; rfl
  | cons p r ih =>
    have e : scl f (p :: r) = (p.1, f * p.2) :: scl f r := rfl
    rw [e, tot_cons, tot_cons, ih, Int.mul_add]
    by_cases h : p.1 = x
    · rw [if_pos h, if_pos h]
    · rw [if_neg h, if_neg h, Int.mul_zero]
theorem num_plusM {c f : Int} {m k m' k' : Nat} {l1 l2 : Tb} (hc : 0 < c) (h1 : VT c m k l1) (h2 : VT c m k' l2) (x : Str) : num (plusM c l1 l2 f) x = (num l1 x + f * num l2 x) % c := by
  have v := vt_plusM hc h1 h2 f
  rw [← num_mod hc v x]
  have e : plusM c l1 l2 f = (scl f l2).foldl (fun a p => putM c a p.1 p.2) l1 := by
    unfold plusM scl
    rw [List.foldl_map]
  rw [e, num_foldM, tot_scl, tot_num h2.nd]
/-- each word of one with each of the other behind it -/
def prs (l m : Tb) : Tb := l.flatMap fun p => m.map fun q => (p.1 ++ q.1, p.2 * q.2)
theorem prs_cons (p : Str × Int) (l m : Tb) : prs (p :: l) m = (m.map fun q => (p.1 ++ q.1, p.2 * q.2)) ++ prs l m := List.flatMap_cons
theorem prodM_tab (c : Int) (l m : Tb) : prodM c l m = (prs l m).foldl (fun a p => putM c a p.1 p.2) [] := by
  have key : ∀ (l : Tb) (a : Tb), l.foldl (fun acc p => m.foldl (fun acc q => putM c acc (p.1 ++ q.1) (p.2 * q.2)) acc) a = (prs l m).foldl (fun a p => putM c a p.1 p.2) a := by
    intro l
    induction l with
    | nil => intro a; rfl
    | cons p r ih =>
      intro a
      rw [List.foldl_cons, ih, prs_cons, List.foldl_append, List.foldl_map]
  exact key l []
theorem num_prodM {c : Int} {m1 k1 m2 k2 : Nat} {l1 l2 : Tb} (hc : 0 < c) (h1 : VT c m1 k1 l1) (h2 : VT c m2 k2 l2) (x : Str) : num (prodM c l1 l2) x = tot (prs l1 l2) x % c := by
  rw [← num_mod hc (vt_prodM hc h1 h2) x, prodM_tab, num_foldM]
  have : num [] x = 0 := rfl
  rw [this, Int.zero_add]
def multT (l m : Tb) : Tb := addT (prs l m) []
/-! ### products by their totals -/
theorem str_cancel {u v w : Str} (h : u ++ v = u ++ w) : v = w := by
  have e : (u ++ v).cps.toList = (u ++ w).cps.toList := by rw [h]
  have e1 : ∀ a b : Str, (a ++ b).cps.toList = a.cps.toList ++ b.cps.toList := fun a b => by
    show (a.cps ++ b.cps).toList = _
    exact Array.toList_append
  rw [e1, e1] at e
  exact PySem.W.str_of_cps (List.append_cancel_left e)
theorem str_cancel_r {u v w : Str} (h : v ++ u = w ++ u) : v = w := by
  have e : (v ++ u).cps.toList = (w ++ u).cps.toList := by rw [h]
  have e1 : ∀ a b : Str, (a ++ b).cps.toList = a.cps.toList ++ b.cps.toList := fun a b => by
    show (a.cps ++ b.cps).toList = _
    exact Array.toList_append
  rw [e1, e1] at e
  exact PySem.W.str_of_cps (List.append_cancel_right e)
theorem str_assoc (u v w : Str) : (u ++ v) ++ w = u ++ (v ++ w) := by
  apply PySem.W.str_of_cps
  have e1 : ∀ a b : Str, (a ++ b).cps.toList = a.cps.toList ++ b.cps.toList := fun a b => by
    show (a.cps ++ b.cps).toList = _
    exact Array.toList_append
  rw [e1, e1, e1, e1, List.append_assoc]
/-- a word put ahead of each -/
def fwd (p : Str × Int) (m : Tb) : Tb := m.map fun q => (p.1 ++ q.1, p.2 * q.2)
theorem tot_fwd (p : Str × Int) (m : Tb) (x : Str) : (∃ v, p.1 ++ v = x ∧ tot (fwd p m) x = p.2 * tot m v) ∨ ((∀ v, p.1 ++ v ≠ x) ∧ tot (fwd p m) x = 0) := by
  by_cases h : ∃ v, p.1 ++ v = x
  · obtain ⟨v, hv⟩ := h
    refine .inl ⟨v, hv, ?_⟩
    induction m with
    | nil => rw [tot_nil, Int.mul_zero]; rfl
    | cons q r ih =>
      have e : fwd p (q :: r) = (p.1 ++ q.1, p.2 * q.2) :: fwd p r := rfl
      rw [e, tot_cons, tot_cons, ih, Int.mul_add]
      by_cases z : q.1 = v
      · rw [if_pos z, if_pos (by rw [z]; exact hv)]
      · rw [if_neg z, if_neg (fun y => z (str_cancel (y.trans hv.symm))), Int.mul_zero]
  · have h' : ∀ v, p.1 ++ v ≠ x := fun v hv => h ⟨v, hv⟩
    refine .inr ⟨h', ?_⟩
    induction m with
    | nil => rfl
    | cons q r ih =>
      have e : fwd p (q :: r) = (p.1 ++ q.1, p.2 * q.2) :: fwd p r := rfl
      rw [e, tot_cons, if_neg (h' q.1), ih, Int.zero_add]
def bwd (q : Str × Int) (l : Tb) : Tb := l.map fun p => (p.1 ++ q.1, p.2 * q.2)
theorem tot_bwd (q : Str × Int) (l : Tb) (x : Str) : (∃ v, v ++ q.1 = x ∧ tot (bwd q l) x = tot l v * q.2) ∨ ((∀ v, v ++ q.1 ≠ x) ∧ tot (bwd q l) x = 0) := by
  by_cases h : ∃ v, v ++ q.1 = x
  · obtain ⟨v, hv⟩ := h
    refine .inl ⟨v, hv, ?_⟩
    induction l with
    | nil => rw [tot_nil, Int.zero_mul]; rfl
    | cons p r ih =>
      have e : bwd q (p :: r) = (p.1 ++ q.1, p.2 * q.2) :: bwd q r := rfl
      rw [e, tot_cons, tot_cons, ih, Int.add_mul]
      by_cases z : p.1 = v
      · rw [if_pos z, if_pos (by rw [z]; exact hv)]
      · rw [if_neg z, if_neg (fun y => z (str_cancel_r (y.trans hv.symm))), Int.zero_mul]
  · have h' : ∀ v, v ++ q.1 ≠ x := fun v hv => h ⟨v, hv⟩
    refine .inr ⟨h', ?_⟩
    induction l with
    | nil => rfl
    | cons p r ih =>
      have e : bwd q (p :: r) = (p.1 ++ q.1, p.2 * q.2) :: bwd q r := rfl
      rw [e, tot_cons, if_neg (h' p.1), ih, Int.zero_add]
theorem tot_prs_cons (p : Str × Int) (l m : Tb) (x : Str) : tot (prs (p :: l) m) x = tot (fwd p m) x + tot (prs l m) x := by
  rw [prs_cons, tot_app]
  rfl
theorem prs_nil_r (l : Tb) : prs l [] = [] := by
  induction l with
  | nil => rfl
  | cons p r ih => rw [prs_cons, ih]; rfl
theorem tot_prs_cons_r (q : Str × Int) (l m : Tb) (x : Str) : tot (prs l (q :: m)) x = tot (bwd q l) x + tot (prs l m) x := by
  induction l with
  | nil => rfl
  | cons p r ih =>
    rw [tot_prs_cons, tot_prs_cons, ih]
    have e1 : fwd p (q :: m) = (p.1 ++ q.1, p.2 * q.2) :: fwd p m := rfl
    have e2 : bwd q (p :: r) = (p.1 ++ q.1, p.2 * q.2) :: bwd q r := rfl
    rw [e1, e2, tot_cons, tot_cons]
    omega
/-- alike by a clock -/
def Lk (c : Int) (l m : Tb) : Prop := ∀ x, tot l x % c = tot m x % c
theorem Lk.refl (c : Int) (l : Tb) : Lk c l l := fun _ => rfl
theorem Lk.symm {c : Int} {l m : Tb} (h : Lk c l m) : Lk c m l := fun x => (h x).symm
theorem Lk.trans {c : Int} {l m n : Tb} (h : Lk c l m) (g : Lk c m n) : Lk c l n := fun x => (h x).trans (g x)
theorem Lk.app {c : Int} {l l' m m' : Tb} (h : Lk c l l') (g : Lk c m m') : Lk c (l ++ m) (l' ++ m') := fun x => by
  rw [tot_app, tot_app, Int.add_emod, h x, g x, ← Int.add_emod]
theorem Lk.scl {c : Int} (f : Int) {l l' : Tb} (h : Lk c l l') : Lk c (scl f l) (Fp.scl f l') := fun x => by
  rw [tot_scl, tot_scl, Int.mul_emod, h x, ← Int.mul_emod]
theorem Lk.prs_r {c : Int} (l : Tb) {m m' : Tb} (h : Lk c m m') : Lk c (prs l m) (prs l m') := fun x => by
  induction l with
  | nil => rfl
  | cons p r ih =>
    rw [tot_prs_cons, tot_prs_cons, Int.add_emod, ih]
    have : tot (fwd p m) x % c = tot (fwd p m') x % c := by
      rcases tot_fwd p m x with ⟨v, hv, e⟩ | ⟨hn, e⟩
      · rcases tot_fwd p m' x with ⟨v', hv', e'⟩ | ⟨hn, e'⟩
        · have : v = v' := str_cancel (hv.trans hv'.symm)
          rw [e, e', this, Int.mul_emod, h v', ← Int.mul_emod]
        · exact absurd hv (hn v)
      · rcases tot_fwd p m' x with ⟨v', hv', e'⟩ | ⟨_, e'⟩
        · exact absurd hv' (hn v')
        · rw [e, e']
    rw [this, ← Int.add_emod]
theorem Lk.prs_l {c : Int} {l l' : Tb} (m : Tb) (h : Lk c l l') : Lk c (prs l m) (prs l' m) := fun x => by
  induction m with
  | nil => rw [prs_nil_r, prs_nil_r]
  | cons q r ih =>
    rw [tot_prs_cons_r, tot_prs_cons_r, Int.add_emod, ih]
    have : tot (bwd q l) x % c = tot (bwd q l') x % c := by
      rcases tot_bwd q l x with ⟨v, hv, e⟩ | ⟨hn, e⟩
      · rcases tot_bwd q l' x with ⟨v', hv', e'⟩ | ⟨hn, e'⟩
        · have : v = v' := str_cancel_r (hv.trans hv'.symm)
          rw [e, e', this, Int.mul_emod, h v', ← Int.mul_emod]
        · exact absurd hv (hn v)
      · rcases tot_bwd q l' x with ⟨v', hv', e'⟩ | ⟨_, e'⟩
        · exact absurd hv' (hn v')
        · rw [e, e']
    rw [this, ← Int.add_emod]
theorem Lk.prs {c : Int} {l l' m m' : Tb} (h : Lk c l l') (g : Lk c m m') : Lk c (prs l m) (Fp.prs l' m') := (Lk.prs_l m h).trans (Lk.prs_r l' g)
theorem prs_assoc (l m n : Tb) : prs (prs l m) n = prs l (prs m n) := by
  unfold prs
  rw [List.flatMap_assoc]
  congr 1
  funext p
  rw [List.flatMap_map, List.map_flatMap]
  congr 1
  funext q
  rw [List.map_map]
  congr 1
  funext r
  simp only [Function.comp]
  rw [str_assoc, Int.mul_assoc]
theorem prs_app_r (l m n : Tb) (x : Str) : tot (prs l (m ++ n)) x = tot (prs l m ++ prs l n) x := by
  induction l with
  | nil => rfl
  | cons p r ih =>
    rw [tot_app] at ih ⊢
    rw [tot_prs_cons, tot_prs_cons, tot_prs_cons, ih]
    have e : fwd p (m ++ n) = fwd p m ++ fwd p n := by unfold fwd; rw [List.map_append]
    rw [e, tot_app]
    omega
theorem str_nil_l (x : Str) : ("" : Str) ++ x = x := PySem.W.str_of_cps (by show ((#[] : Array Nat) ++ x.cps).toList = _; simp)
theorem str_nil_r (x : Str) : x ++ ("" : Str) = x := PySem.W.str_of_cps (by show (x.cps ++ (#[] : Array Nat)).toList = _; simp)
theorem prs_one_l (m : Tb) : prs [("", 1)] m = m := by
  rw [prs_cons]
  have : prs [] m = [] := rfl
  rw [this, List.append_nil]
  have e : (fun q : Str × Int => (((("" : Str), (1 : Int)).1 ++ q.1, (("" : Str), (1 : Int)).2 * q.2) : Str × Int)) = id := by
    funext q
    show ((("" : Str) ++ q.1, 1 * q.2) : Str × Int) = q
    rw [str_nil_l, Int.one_mul]
  rw [e, List.map_id]
theorem prs_one_r (l : Tb) : prs l [("", 1)] = l := by
  induction l with
  | nil => rfl
  | cons p r ih =>
    rw [prs_cons, ih]
    show ((p.1 ++ ("" : Str), p.2 * 1) : Str × Int) :: r = _
    rw [str_nil_r, Int.mul_one]
end Fp

set_option Elab.async false
set_option linter.all false
set_option maxRecDepth 100000
set_option maxHeartbeats 4000000
namespace L2
open PySem PySem.Spec PyProof.Rows
/-- a dict comprehension over what is walked: Pv by the turn and the heap, the new dict at D in it -/
theorem dc_it {J : It} {n : Nat} {G : Hp → Prop} {Y : Nat → Hp → V → Hp → Prop} (wk : Walk J n G Y) {g : TG} {tt : TT} {tk tv : TE} {vs : List Nat} {σ : St} {H1 : Hp} {D : Addr} {Qd : Hp → Prop} (Pv : Nat → Hp → Prop) (z0 : Pv 0 (upd H1 D (.dK [])))
    (zG : ∀ i H, i ≤ n → Pv i H → G H)
    (zs : ∀ i x H H', i < n → Pv i H → Y i H x H' → g x (wipe σ vs) H' fun σ2 H2 => wipe σ2 vs = wipe σ vs ∧ tt σ2 H2 fun b H3 =>
      if b = true then tk σ2 H3 fun y H4 => tv σ2 H4 fun z H5 => ∃ kvs k, y = kV k ∧ H5 D = some (.dK kvs) ∧ kvs.length < sizeLine ∧ Pv (i + 1) (upd H5 D (.dK (putK kvs k z))) else Pv (i + 1) H3)
    (zd : ∀ H, Pv n H → Qd H) :
    ∃ W : Nat → Nat → Hp → Prop, (∃ m, W 0 m (upd H1 D (.dK []))) ∧ ∀ i m H, W i m H →
      (J.stop i H ∧ Qd H) ∨ (J.go i H ∧ ∃ Nx : Hp → Prop, (∀ H', Nx H' → ∃ m', m' < m ∧ W (i + 1) m' H') ∧ ∀ x H', J.yld i H x H' → g x (wipe σ vs) H' fun σ2 H2 => wipe σ2 vs = wipe σ vs ∧ tt σ2 H2 fun b H3 =>
        if b = true then tk σ2 H3 fun y H4 => tv σ2 H4 fun z H5 => ∃ kvs k, y = kV k ∧ H5 D = some (.dK kvs) ∧ kvs.length < sizeLine ∧ Nx (upd H5 D (.dK (putK kvs k z))) else Nx H3) := by
  refine ⟨fun i m H => (m = n - i ∧ i ≤ n) ∧ Pv i H, ⟨n, ⟨by simp, Nat.zero_le _⟩, z0⟩, ?_⟩
  rintro i m H ⟨⟨rfl, hi⟩, p⟩
  have q := zG i H hi p
  by_cases hlt : i < n
  · exact .inr ⟨wk.goes i H hlt q, Pv (i + 1), fun H' p' => ⟨n - (i + 1), by omega, ⟨rfl, hlt⟩, p'⟩, fun x H' y => zs i x H H' hlt p (wk.yields i H x H' hlt q y)⟩
  · obtain rfl : i = n := by omega
    exact .inl ⟨wk.stops H q, zd H p⟩
/-- X(), X an own class without __init__ -/
theorem pmk_own0 {X : Cx} {C : Addr} {bmB : List Value} {B newId initId : String} {x : Str} {p pos : Pos} (F : ExcBaseFacts B newId initId bmB) (q : PySem.W.excIn X.K C bmB newId = true) (gC : X.mg x = some (.ref C))
    (kC : PySem.W.keepIn X.K (.ref C) = true) (r : Raises X (.ref C)) (hg : Gl X x) (hdb : (x == ("__debug__" : Str)) = false := by decide) : PMk X (.Call (.Name x p) [] [] pos) (fun _ H Q => Q (.ref C) none H) := by
  intro pins s σ H Q I h
  refine wpAny_Call_Name_kw (ld_glob I hg gC ?_ hdb)
  refine PySem.W.callWith_K0 (K := X.K) I.kIn kC ?_
  show wpAny _ _ (call (.ref C) []) _ _ _
  obtain ⟨bm, N, nm, qn, bs, hdct, sn, sub, ab, col, dd, k0, k1, k2, k3, k5, mN, hC, hN, hni, T⟩ := exc_obj I.kIn q
  refine wpAny_call_exc_subT F T hC hN hni (fun h' e hm => ?_) (Nat.zero_le _)
  exact mk_of I hm r h (I.hok.gone hm.new)
abbrev tTru (K : PySem.W.Frag) (te : TE) : TT := fun σ H Q => te σ H fun x H' => ∃ k, TruV K x H' k ∧ Q k H'
abbrev tMod (a b : TE) : TE := tOp (rI (fun _ j => 0 < j) fun i j => .int (i % j)) a b
abbrev gPair (K : PySem.W.Frag) (i j : Nat) : TG := gTup K 2 (gCons (gName i) (gCons (gName j) gNil))
end L2
namespace Fp
open PySem PySem.Spec PyProof.Rows L2
theorem tidy_take (c : Int) {l : Tb} {i : Nat} {p : Str × Int} (e : l[i]? = some p) : tidyM c (l.take (i + 1)) = if p.2 % c ≠ 0 then tidyM c (l.take i) ++ [(p.1, p.2 % c)] else tidyM c (l.take i) := by
  unfold tidyM
  rw [List.take_add_one, e]
  simp only [Option.toList_some, List.filter_append, List.map_append]
  by_cases h : p.2 % c = 0
  · rw [if_neg (fun z => z h)]
    have : [p].filter (fun p => decide (p.2 % c ≠ 0)) = [] := List.filter_cons_of_neg (by simpa using h)
    rw [this]
    simp
  · rw [if_pos h]
    have : [p].filter (fun p => decide (p.2 % c ≠ 0)) = [p] := List.filter_cons_of_pos (by simpa using h)
    rw [this]
    rfl
theorem tidy_no (c : Int) {l : Tb} (h : Nd l) {i : Nat} {p : Str × Int} (e : l[i]? = some p) : has (tidyM c (l.take i)) p.1 = false := by
  cases z : has (tidyM c (l.take i)) p.1 with
  | false => rfl
  | true =>
    exfalso
    obtain ⟨q, hq, e2⟩ := List.mem_map.mp (has_iff.mp z)
    obtain ⟨p', hp', e3, _⟩ := tidy_keys hq
    rw [e3] at e2
    have h1 : Nd (l.take (i + 1)) := by
      unfold Nd
      rw [List.map_take]
      exact (List.take_sublist _ _).nodup h
    unfold Nd at h1
    rw [List.take_add_one, e, List.map_append] at h1
    have h2 := (List.nodup_append.mp h1).2.2
    exact h2 p'.1 (List.mem_map.mpr ⟨p', hp', rfl⟩) p.1 (by simp) e2
theorem kv_item {l : Tb} {i : Nat} {k v : V} (h1 : ((kv l)[i]?.map fun kv => kV kv.1) = some k) (h2 : ((kv l)[i]?.map Prod.snd) = some v) : ∃ p, l[i]? = some p ∧ k = .str p.1 ∧ v = .int p.2 := by
  unfold kv at h1 h2
  rw [List.getElem?_map] at h1 h2
  cases q : l[i]? with
  | none => rw [q] at h1; cases h1
  | some p =>
    rw [q] at h1 h2
    exact ⟨p, rfl, (Option.some.inj h1).symm, (Option.some.inj h2).symm⟩
section
variable {P : Program} {w : World} {K : PySem.W.Frag} {mg : Str → Option Value} {base : Heap}
def spTidied : Sp := fun vs H Q _ => ∃ (d : Addr) (c : Int) (l : Tb), vs = [.ref d, .int c] ∧ 0 < c ∧ H d = some (.dK (kv l)) ∧ Nd l ∧ l.length ≤ 1000000 ∧ ∀ H' D, Same H H' → H D = none → H' D = some (.dK (kv (tidyM c l))) → Q (.ref D) H'
abbrev nTidied : List Str := ["table", "clock", "word", "number"]
theorem sc_tidied : FnScope nTidied ["table", "clock"] (defScope s_tidied) := ⟨rfl, rfl, rfl, by decide +kernel, rfl, by decide +kernel, by decide +kernel⟩
theorem ok_tidied (T : Top K mg) : Ok P w K mg base 1 "tidied" ["table", "clock"] spTidied := by
  obtain ⟨fd, F⟩ := fn_tidied T
  refine ⟨⟨fd, ?_, F.bindsN fun _ _ _ _ _ _ us hl => match us, hl with | [_, _], _ => rfl⟩, g_tidied T, F.kp⟩
  refine F.ok sc_tidied (fun vs H Q E h => ?_) (fun cdv A outer s H vs Q E hr h => ?_)
  · obtain ⟨d, c, l, rfl, _⟩ := h
    rfl
  · obtain ⟨d, c, l, rfl, hc, hd, hnd, hll, q⟩ := h
    have nd := sc_tidied.nd
    have hu := hu_of hr
    have hs : sizeLine = 16777216 := sizeLine_eq
    refine ⟨_, PSs.nox (pss_one (ps_ret (pe_lock (pe_dc (own := [("word", 2), ("number", 3)]) (g := gPair K 2 3) (tt := tTru K (tMod (tVar 3) (tVar 1))) (tk := tVar 2) (tv := tMod (tVar 3) (tVar 1)) rfl nd (pi_items (pv 0)) (blkOk_by (N := nTidied) (sc := defScope s_tidied) (by decide +kernel))
      (fun _ _ _ _ _ => pg_tup rfl (pgs_cons (pg_name (i := 2) nd rfl (Or.inl rfl)) (pgs_cons (pg_name (i := 3) nd rfl (Or.inl rfl)) pgs_nil)))
      (fun _ _ _ _ _ => pts_one (pt_truth (pe_op op_mod (pv 3) (pv 1)) (fun _ => rfl))) (fun _ _ _ _ _ => pv 2) (fun _ _ _ _ _ => pe_op op_mod (pv 3) (pv 1)))))), ?_⟩
    refine ⟨d, _, hd, trivial, fun od => ?_⟩
    refine ⟨_, rfl, d, od, kv l, rfl, upd_same, fun D hD => ?_⟩
    have nD : D ≠ d := fun e => by
      rw [e, upd_same] at hD
      cases hD
    have hD0 : H D = none := by
      rw [upd_ne nD] at hD
      exact hD
    refine dc_it walk_items (fun i H' => H' D = some (.dK (kv (tidyM c (l.take i)))) ∧ But d H H' ∧ H' d = some (.frz od (.dK (kv l)))) ⟨upd_same, ?_, ?_⟩ (fun i H' _ hP => hP.2.2) ?_ ?_
    · intro b o e n
      rw [upd_ne (ne_of_none e hD0), upd_ne n]
      exact e
    · rw [upd_ne nD.symm]
      exact upd_same
    · rintro i x H1 H2 hi ⟨p1, p2, p3⟩ ⟨t, k, v, rfl, ht, rfl, e1, e2⟩
      obtain ⟨p, ep, rfl, rfl⟩ := kv_item e1 e2
      have nt : D ≠ t := ne_of_none p1 ht
      have ndt : d ≠ t := ne_of_none p3 ht
      refine ⟨t, _, rfl, .inl (.inl upd_same), rfl, ?_⟩
      refine ⟨_, _, rfl, _, _, rfl, rfl, rfl, ?_⟩
      refine ⟨_, rfl, _, rfl, _, _, rfl, rfl, hc, _, rfl, ?_⟩
      have et := tidy_take c ep
      have el : (tidyM c (l.take i)).length ≤ i := Nat.le_trans tidy_len (by rw [List.length_take]; omega)
      rw [kv_len] at hi
      refine ite2 (fun hz => ?_) (fun hz => ?_)
      · have hz' : p.2 % c ≠ 0 := by simpa using hz
        rw [if_pos hz'] at et
        refine ⟨_, rfl, _, rfl, _, rfl, _, _, rfl, rfl, hc, _, Sum.inr p.1, rfl, by rw [upd_ne nt]; exact p1, by rw [kv_len]; omega, ?_, ?_, ?_⟩
        · rw [upd_same, putK_kv, et]
          unfold putT
          rw [tidy_no c hnd ep, if_neg Bool.false_ne_true]
        · intro b o e n
          rw [upd_ne (ne_of_none e hD0), upd_ne (ne_of_none (p2 b o e n) ht)]
          exact p2 b o e n
        · rw [upd_ne nD.symm, upd_ne ndt]
          exact p3
      · have hz' : ¬ p.2 % c ≠ 0 := by simpa using hz
        rw [if_neg hz'] at et
        refine ⟨?_, ?_, ?_⟩
        · rw [upd_ne nt, et]
          exact p1
        · intro b o e n
          rw [upd_ne (ne_of_none (p2 b o e n) ht)]
          exact p2 b o e n
        · rw [upd_ne ndt]
          exact p3
    · rintro H' ⟨p1, p2, p3⟩
      rw [kv_len, List.take_length] at p1
      refine ⟨p3, q _ D (fun b o e => ?_) hD0 (by rw [upd_ne nD]; exact p1)⟩
      by_cases n : b = d
      · rw [n, upd_same, ← hd, ← n, e]
      · rw [upd_ne n]
        exact p2 b o e n
end
end Fp

set_option Elab.async false
set_option linter.all false
set_option maxRecDepth 100000
set_option maxHeartbeats 4000000
namespace Fp
open PySem PySem.Spec PyProof.Rows L2
theorem addT_app (a b x : Tb) : addT (a ++ b) x = addT b (addT a x) := by
  unfold addT
  rw [List.foldl_append]
theorem addT_take {es : Tb} {i : Nat} {p : Str × Int} (e : es[i]? = some p) (a : Tb) : addT (es.take (i + 1)) a = putT (addT (es.take i) a) p.1 (num (addT (es.take i) a) p.1 + p.2) := by
  rw [List.take_add_one, e, addT_app]
  rfl
theorem scl_get {f : Int} {l : Tb} {i : Nat} {p : Str × Int} (e : l[i]? = some p) : (scl f l)[i]? = some (p.1, f * p.2) := by
  unfold scl
  rw [List.getElem?_map, e]
  rfl
theorem scl_len (f : Int) (l : Tb) : (scl f l).length = l.length := List.length_map _
theorem fwd_get {q : Str × Int} {l : Tb} {i : Nat} {p : Str × Int} (e : l[i]? = some p) : (fwd q l)[i]? = some (q.1 ++ p.1, q.2 * p.2) := by
  unfold fwd
  rw [List.getElem?_map, e]
  rfl
theorem fwd_len (q : Str × Int) (l : Tb) : (fwd q l).length = l.length := List.length_map _
theorem prs_take {l m : Tb} {i : Nat} {p : Str × Int} (e : l[i]? = some p) : prs (l.take (i + 1)) m = prs (l.take i) m ++ fwd p m := by
  rw [List.take_add_one, e]
  unfold prs
  rw [List.flatMap_append]
  simp only [Option.toList_some, List.flatMap_cons, List.flatMap_nil, List.append_nil]
  rfl
theorem prs_len (l m : Tb) : (prs l m).length = l.length * m.length := by
  induction l with
  | nil => rw [show prs [] m = [] from rfl]; simp
  | cons p r ih => rw [prs_cons, List.length_append, ih, List.length_map, List.length_cons, Nat.add_mul]; omega
section
variable {P : Program} {w : World} {K : PySem.W.Frag} {mg : Str → Option Value} {base : Heap}
def spAdded : Sp := fun vs H Q _ => ∃ (d1 d2 : Addr) (f c : Int) (l1 l2 : Tb), vs = [.ref d1, .ref d2, .int f, .int c] ∧ 0 < c ∧ c ≤ 7 ∧ H d1 = some (.dK (kv l1)) ∧ H d2 = some (.dK (kv l2)) ∧ Nd l1 ∧ (∀ p ∈ l2, 1 ≤ p.2 ∧ p.2 < c) ∧ l1.length ≤ 400000 ∧ l2.length ≤ 400000 ∧
  ∀ H' D, Same H H' → H D = none → H' D = some (.dK (kv (tidyM c (addT (scl f l2) l1)))) → Q (.ref D) H'
abbrev nAdded : List Str := ["one", "other", "factor", "clock", "found", "word", "number"]
theorem sc_added : FnScope nAdded ["one", "other", "factor", "clock"] (defScope s_added) := ⟨rfl, rfl, rfl, by decide +kernel, rfl, by decide +kernel, by decide +kernel⟩
theorem ok_added (T : Top K mg) : Ok P w K mg base 2 "added" ["one", "other", "factor", "clock"] spAdded := by
  obtain ⟨fd, F⟩ := fn_added T
  refine ⟨⟨fd, ?_, F.bindsN fun _ _ _ _ _ _ us hl => match us, hl with | [_, _, _, _], _ => rfl⟩, g_added T, F.kp⟩
  refine F.ok sc_added (fun vs H Q E h => ?_) (fun cdv A outer s H vs Q E hr h => ?_)
  · obtain ⟨d1, d2, f, c, l1, l2, rfl, _⟩ := h
    rfl
  · obtain ⟨d1, d2, f, c, l1, l2, rfl, hc, hc7, h1, h2, hnd, hnu, hl1, hl2, q⟩ := h
    have nd := sc_added.nd
    have hu := hu_of hr
    have hs : sizeLine = 16777216 := sizeLine_eq
    refine ⟨_, PSs.nox (pss_cons (ps_set (i := 4) nd rfl (Or.inl rfl) (pe_callTy call_dictD (by rfl) (f_dict T) (by decide +kernel) (pa_cons (pv 0) pa_nil)))
      (pss_cons (ps_lock (ps_for PassesOwn.never rfl (pi_items (pv 1)) (pg_tup rfl (pgs_cons (pg_name (i := 5) nd rfl (Or.inl rfl)) (pgs_cons (pg_name (i := 6) nd rfl (Or.inl rfl)) pgs_nil)))
        (pss_one (ps_dput hu (pv 4) (pv 5) (pe_op op_add (pe_dget2 hu (pv 4) (pv 5) pe_int ⟨rfl, rfl, rfl, rfl⟩) (pe_op op_mul (pv 2) (pv 6))) rfl))))
      (pss_one (ps_ret (pc (ok_tidied T) hr (pa_cons (pv 4) (pa_cons (pv 3) pa_nil))))))), ?_⟩
    refine ⟨_, rfl, d1, kv l1, rfl, .inl h1, fun F0 hF => ?_⟩
    have n2F : d2 ≠ F0 := ne_of_none h2 hF
    refine ⟨d2, .dK (kv l2), by rw [upd_ne n2F]; exact h2, trivial, fun od => ?_⟩
    refine ⟨_, rfl, d2, od, kv l2, rfl, upd_same, ?_⟩
    refine for_it walk_items (fun i σ H' => (∃ v u, σ = [some (.ref d1), some (.ref d2), some (.int f), some (.int c), some (.ref F0), v, u]) ∧ H' F0 = some (.dK (kv (addT ((scl f l2).take i) l1))) ∧ But d2 H H' ∧ H' d2 = some (.frz od (.dK (kv l2))))
      ⟨⟨none, none, rfl⟩, ?_, ?_, upd_same⟩ (fun i σ H' _ hP => hP.2.2.2) ?_ ?_
    · rw [upd_ne n2F.symm, upd_same]
      rfl
    · intro b o e n
      rw [upd_ne n, upd_ne (ne_of_none e hF)]
      exact e
    · rintro i x σ H1 H2 hi ⟨⟨v, u, rfl⟩, p1, p2, p3⟩ ⟨t, k, v', rfl, ht, rfl, e1, e2⟩
      obtain ⟨p, ep, rfl, rfl⟩ := kv_item e1 e2
      have hn := hnu p (List.mem_of_getElem? ep)
      have nFt : F0 ≠ t := ne_of_none p1 ht
      have ndt : d2 ≠ t := ne_of_none p3 ht
      have p1' : (upd H1 t (.tup [.str p.1, .int p.2])) F0 = some (.dK (kv (addT ((scl f l2).take i) l1))) := by
        rw [upd_ne nFt]
        exact p1
      refine ⟨t, _, rfl, .inl (.inl upd_same), rfl, ?_⟩
      refine ⟨_, _, rfl, _, _, rfl, rfl, ?_⟩
      refine ⟨_, rfl, F0, rfl, .inl ⟨_, .inl p1'⟩, _, rfl, _, DGet.k (k := Sum.inr p.1) p1', ?_⟩
      rw [num_eq]
      refine ⟨_, rfl, _, rfl, _, _, rfl, rfl, .inr ⟨by omega, by omega⟩, _, _, rfl, rfl, ?_⟩
      refine ⟨_, rfl, _, rfl, F0, _, rfl, DPut.k (k := Sum.inr p.1) p1' ?_, ?_⟩
      · have := len_addT ((scl f l2).take i) l1
        rw [List.length_take, scl_len] at this
        rw [kv_len]
        omega
      · refine ⟨⟨_, _, rfl⟩, ?_, ?_, ?_⟩
        · rw [upd_same, putK_kv, addT_take (scl_get ep)]
        · intro b o z n
          rw [upd_ne (ne_of_none z hF), upd_ne (ne_of_none (p2 b o z n) ht)]
          exact p2 b o z n
        · rw [upd_ne n2F, upd_ne ndt]
          exact p3
    · rintro σ H' ⟨⟨v, u, rfl⟩, p1, p2, p3⟩
      rw [kv_len, List.take_of_length_le (by rw [scl_len]; exact Nat.le_refl _)] at p1
      refine ⟨p3, ?_⟩
      have base' : Same H (upd H' d2 (.dK (kv l2))) := fun b o e => by
        by_cases n : b = d2
        · rw [n, upd_same, ← h2, ← n, e]
        · rw [upd_ne n]
          exact p2 b o e n
      refine ⟨_, rfl, _, rfl, F0, c, _, rfl, hc, by rw [upd_ne n2F.symm]; exact p1, nd_addT _ _ hnd, ?_, fun H2 D s2 nD eD => q H2 D (base'.trans s2) (base'.free nD) eD⟩
      have := len_addT (scl f l2) l1
      rw [scl_len] at this
      omega
def spMult : Sp := fun vs H Q _ => ∃ (d1 d2 : Addr) (c : Int) (m1 k1 m2 k2 : Nat) (l1 l2 : Tb), vs = [.ref d1, .ref d2, .int c] ∧ 0 < c ∧ c ≤ 7 ∧ d1 ≠ d2 ∧ H d1 = some (.dK (kv l1)) ∧ H d2 = some (.dK (kv l2)) ∧ VT c m1 k1 l1 ∧ VT c m2 k2 l2 ∧ m1 ≤ 1000 ∧ m2 ≤ 1000 ∧ k1 * k2 ≤ 900000 ∧
  ∀ H' D, Same H H' → H D = none → H' D = some (.dK (kv (tidyM c (multT l1 l2)))) → Q (.ref D) H'
abbrev nMult : List Str := ["one", "other", "clock", "found", "front", "number", "back", "amount"]
theorem sc_mult : FnScope nMult ["one", "other", "clock"] (defScope s_multiplied) := ⟨rfl, rfl, rfl, by decide +kernel, rfl, by decide +kernel, by decide +kernel⟩
theorem ok_multiplied (T : Top K mg) : Ok P w K mg base 2 "multiplied" ["one", "other", "clock"] spMult := by
  obtain ⟨fd, F⟩ := fn_multiplied T
  refine ⟨⟨fd, ?_, F.bindsN fun _ _ _ _ _ _ us hl => match us, hl with | [_, _, _], _ => rfl⟩, g_multiplied T, F.kp⟩
  refine F.ok sc_mult (fun vs H Q E h => ?_) (fun cdv A outer s H vs Q E hr h => ?_)
  · obtain ⟨d1, d2, c, m1, k1, m2, k2, l1, l2, rfl, _⟩ := h
    rfl
  · obtain ⟨d1, d2, c, m1, k1, m2, k2, l1, l2, rfl, hc, hc7, n12, h1, h2, v1, v2, hm1, hm2, hk, q⟩ := h
    have nd := sc_mult.nd
    have hu := hu_of hr
    have hs : sizeLine = 16777216 := sizeLine_eq
    have hkk : l1.length * l2.length ≤ 900000 := Nat.le_trans (Nat.mul_le_mul v1.ln v2.ln) hk
    refine ⟨_, PSs.nox (pss_cons (ps_set (i := 3) nd rfl (Or.inl rfl) pe_dnewK)
      (pss_cons (ps_lock (ps_for PassesOwn.never rfl (pi_items (pv 0)) (pg_tup rfl (pgs_cons (pg_name (i := 4) nd rfl (Or.inl rfl)) (pgs_cons (pg_name (i := 5) nd rfl (Or.inl rfl)) pgs_nil)))
        (pss_one (ps_lock (ps_for PassesOwn.never rfl (pi_items (pv 1)) (pg_tup rfl (pgs_cons (pg_name (i := 6) nd rfl (Or.inl rfl)) (pgs_cons (pg_name (i := 7) nd rfl (Or.inl rfl)) pgs_nil)))
          (pss_one (ps_dput hu (pv 3) (pe_op op_add_str (pv 4) (pv 6)) (pe_op op_add (pe_dget2 hu (pv 3) (pe_op op_add_str (pv 4) (pv 6)) pe_int ⟨rfl, rfl, rfl, rfl⟩) (pe_op op_mul (pv 5) (pv 7))) rfl)))))))
      (pss_one (ps_ret (pc (ok_tidied T) hr (pa_cons (pv 3) (pa_cons (pv 2) pa_nil))))))), ?_⟩
    refine fun F0 hF => ?_
    have n1F : d1 ≠ F0 := ne_of_none h1 hF
    have n2F : d2 ≠ F0 := ne_of_none h2 hF
    refine ⟨d1, .dK (kv l1), by rw [upd_ne n1F]; exact h1, trivial, fun od => ?_⟩
    refine ⟨_, rfl, d1, od, kv l1, rfl, upd_same, ?_⟩
    refine for_it walk_items (fun i σ H' => (∃ v u v2 u2, σ = [some (.ref d1), some (.ref d2), some (.int c), some (.ref F0), v, u, v2, u2]) ∧ H' F0 = some (.dK (kv (addT (prs (l1.take i) l2) []))) ∧ But d1 H H' ∧ H' d1 = some (.frz od (.dK (kv l1))))
      ⟨⟨none, none, none, none, rfl⟩, ?_, ?_, upd_same⟩ (fun i σ H' _ hP => hP.2.2.2) ?_ ?_
    · rw [upd_ne n1F.symm, upd_same]
      rfl
    · intro b o e n
      rw [upd_ne n, upd_ne (ne_of_none e hF)]
      exact e
    · rintro i x σ H1 H2 hi ⟨⟨v, u, v2', u2', rfl⟩, p1, p2, p3⟩ ⟨t, k, v', rfl, ht, rfl, e1, e2⟩
      obtain ⟨p, ep, rfl, rfl⟩ := kv_item e1 e2
      have hp : p ∈ l1 := List.mem_of_getElem? ep
      have hil : i < l1.length := (List.getElem?_eq_some_iff.mp ep).1
      have nFt : F0 ≠ t := ne_of_none p1 ht
      have ndt : d1 ≠ t := ne_of_none p3 ht
      have x1 : (upd H1 t (.tup [.str p.1, .int p.2])) F0 = some (.dK (kv (addT (prs (l1.take i) l2) []))) := by
        rw [upd_ne nFt]
        exact p1
      have x2 : But d1 H (upd H1 t (.tup [.str p.1, .int p.2])) := fun b o z n => by
        rw [upd_ne (ne_of_none (p2 b o z n) ht)]
        exact p2 b o z n
      have x3 : (upd H1 t (.tup [.str p.1, .int p.2])) d1 = some (.frz od (.dK (kv l1))) := by
        rw [upd_ne ndt]
        exact p3
      refine ⟨t, _, rfl, .inl (.inl upd_same), rfl, ?_⟩
      refine ⟨_, _, rfl, _, _, rfl, rfl, ?_⟩
      generalize upd H1 t (.tup [.str p.1, .int p.2]) = H1 at x1 x2 x3 ⊢
      clear p1 p2 p3 nFt ndt ht
      have hplen : (l1.take i).length = i := by rw [List.length_take]; omega
      refine ⟨d2, .dK (kv l2), x2 _ _ h2 n12.symm, trivial, fun od2 => ?_⟩
      refine ⟨_, rfl, d2, od2, kv l2, rfl, upd_same, ?_⟩
      refine for_it walk_items (fun j σ H' => (∃ v u, σ = [some (.ref d1), some (.ref d2), some (.int c), some (.ref F0), some (.str p.1), some (.int p.2), v, u]) ∧ H' F0 = some (.dK (kv (addT ((fwd p l2).take j) (addT (prs (l1.take i) l2) [])))) ∧
          (∀ b o, H b = some o → b ≠ d1 → b ≠ d2 → H' b = some o) ∧ H' d1 = some (.frz od (.dK (kv l1))) ∧ H' d2 = some (.frz od2 (.dK (kv l2))))
        ⟨⟨_, _, rfl⟩, ?_, ?_, ?_, upd_same⟩ (fun i σ H' _ hP => hP.2.2.2.2) ?_ ?_
      · rw [upd_ne n2F.symm]
        exact x1
      · intro b o z na nb
        rw [upd_ne nb]
        exact x2 b o z na
      · rw [upd_ne n12]
        exact x3
      · rintro j x σ H3 H4 hj ⟨⟨v, u, rfl⟩, r1, r2, r3, r4⟩ ⟨t2, k, v', rfl, ht2, rfl, e1, e2⟩
        obtain ⟨q0, eq0, rfl, rfl⟩ := kv_item e1 e2
        have hq : q0 ∈ l2 := List.mem_of_getElem? eq0
        have hjl : j < l2.length := (List.getElem?_eq_some_iff.mp eq0).1
        have hn1 := v1.nu p hp
        have hn2 := v2.nu q0 hq
        have hw1 := v1.wd p hp
        have hw2 := v2.wd q0 hq
        have nFt : F0 ≠ t2 := ne_of_none r1 ht2
        have y1 : (upd H3 t2 (.tup [.str q0.1, .int q0.2])) F0 = some (.dK (kv (addT ((fwd p l2).take j) (addT (prs (l1.take i) l2) [])))) := by
          rw [upd_ne nFt]
          exact r1
        have hwl : p.1.length + q0.1.length ≤ sizeLine := by have := hw1.2; have := hw2.2; omega
        refine ⟨t2, _, rfl, .inl (.inl upd_same), rfl, ?_⟩
        refine ⟨_, _, rfl, _, _, rfl, rfl, ?_⟩
        refine ⟨_, rfl, F0, rfl, .inl ⟨_, .inl y1⟩, _, rfl, _, rfl, _, _, rfl, rfl, hwl, _, DGet.k (k := Sum.inr (p.1 ++ q0.1)) y1, ?_⟩
        rw [num_eq]
        refine ⟨_, rfl, _, rfl, _, _, rfl, rfl, .inr ⟨by omega, by omega⟩, _, _, rfl, rfl, ?_⟩
        refine ⟨_, rfl, _, rfl, _, rfl, _, _, rfl, rfl, hwl, F0, _, rfl, DPut.k (k := Sum.inr (p.1 ++ q0.1)) y1 ?_, ?_⟩
        · have b1 := len_addT ((fwd p l2).take j) (addT (prs (l1.take i) l2) [])
          have b2 := len_addT (prs (l1.take i) l2) []
          rw [prs_len, hplen] at b2
          rw [List.length_take, fwd_len] at b1
          have b3 : (i + 1) * l2.length ≤ l1.length * l2.length := Nat.mul_le_mul_right _ hil
          rw [Nat.add_mul] at b3
          have b4 : ([] : Tb).length = 0 := rfl
          rw [kv_len]
          omega
        · refine ⟨⟨_, _, rfl⟩, ?_, ?_, ?_, ?_⟩
          · rw [upd_same, putK_kv, addT_take (fwd_get eq0)]
          · intro b o z na nb
            rw [upd_ne (ne_of_none z hF), upd_ne (ne_of_none (r2 b o z na nb) ht2)]
            exact r2 b o z na nb
          · rw [upd_ne n1F, upd_ne (ne_of_none r3 ht2)]
            exact r3
          · rw [upd_ne n2F, upd_ne (ne_of_none r4 ht2)]
            exact r4
      · rintro σ H3 ⟨⟨v, u, rfl⟩, r1, r2, r3, r4⟩
        rw [kv_len, List.take_of_length_le (by rw [fwd_len]; exact Nat.le_refl _)] at r1
        refine ⟨r4, ⟨_, _, _, _, rfl⟩, ?_, ?_, ?_⟩
        · rw [upd_ne n2F.symm, prs_take ep, addT_app]
          exact r1
        · intro b o z na
          by_cases nb : b = d2
          · rw [nb, upd_same, ← h2, ← nb, z]
          · rw [upd_ne nb]
            exact r2 b o z na nb
        · rw [upd_ne n12]
          exact r3
    · rintro σ H' ⟨⟨v, u, v2', u2', rfl⟩, p1, p2, p3⟩
      rw [kv_len, List.take_length] at p1
      refine ⟨p3, ?_⟩
      have base' : Same H (upd H' d1 (.dK (kv l1))) := fun b o e => by
        by_cases n : b = d1
        · rw [n, upd_same, ← h1, ← n, e]
        · rw [upd_ne n]
          exact p2 b o e n
      refine ⟨_, rfl, _, rfl, F0, c, _, rfl, hc, by rw [upd_ne n1F.symm]; exact p1, nd_addT _ _ (show Nd [] from List.nodup_nil), ?_, fun H2 D s2 nD eD => q H2 D (base'.trans s2) (base'.free nD) eD⟩
      have := len_addT (prs l1 l2) []
      rw [prs_len] at this
      have b4 : ([] : Tb).length = 0 := rfl
      omega
end
end Fp

set_option Elab.async false
set_option linter.all false
set_option maxRecDepth 100000
set_option maxHeartbeats 4000000
namespace L2
open PySem PySem.Spec PyProof.Rows
/-- a walk over a list or a tuple, told by the heap -/
def iSeqV (K : PySem.W.Frag) (tl : TE) : TI := fun σ H R => tl σ H fun x H1 => ∃ a, x = .ref a ∧ (((∃ xs, SqL K H1 a xs) ∧ R (Itl K a) H1) ∨ ((∃ xs, SqT K H1 a xs) ∧ R (Itt K a) H1))
theorem pi_seqV {X : Cx} {tg : Expr} {l : Expr} {tl : TE} (he : PE X l tl) : PI X tg l (iSeqV X.K tl) := by
  constructor
  intro pins s σ H R I h
  refine thn (he.run pins s σ H _ I h) fun v t ⟨x, G, J, rr, a, e, hh⟩ => ?_
  subst e
  cases rr
  have fp : ∀ b ∈ [t.heap.objs.size], FpOk X pins G b := fun b hb => by
    rw [List.mem_singleton.mp hb]
    exact J.fpOk (Nat.le_refl _) (J.hok.fresh (Nat.le_refl _))
  have go : ∀ o, Inv X pins σ G { t with heap := t.heap.push o } := fun o => J.kept (t' := t.toks) fun b u z => Heap.get?_push_of_some _ z
  rcases hh with ⟨⟨xs, hq⟩, q⟩ | ⟨⟨xs, hq⟩, q⟩
  · obtain ⟨its, _, pl, _⟩ := J.list hq
    exact wpAny_pyIter_list pl.isList ⟨t.heap.objs.size, [t.heap.objs.size], _, _, G, rfl, go _, turn_list a _, ⟨_, Heap.get?_push_size _ rfl, rfl, rfl⟩, fp, q⟩
  · obtain ⟨its, _, pl, _⟩ := J.tuple hq
    exact wpAny_pyIter_tuple (show t.heap.IsTuple a its.toArray from pl) ⟨t.heap.objs.size, [t.heap.objs.size], _, _, G, rfl, go _, turn_tuple a _, ⟨_, Heap.get?_push_size _ rfl, rfl, rfl⟩, fp, q⟩
end L2
namespace Fp
open PySem PySem.Spec PyProof.Rows L2
/-! ### defs that may raise -/
structure OkX (P : Program) (w : World) (K : PySem.W.Frag) (mg : Str → Option Value) (base : Heap) (k : Nat) (x : Str) (ps : List Str) (sp : Sp) : Prop where
  ex : ∃ fd, FnOk P w K mg base (L2.CX P w) k (He.ga K x) fd ps sp ∧ Binds K fd ps []
  g : mg x = some (.ref (He.ga K x))
  kp : PySem.W.keepIn K (.ref (He.ga K x)) = true
/-- called where it doesn't raise -/
theorem pcL {X : Cx} {x : Str} {p pos : Pos} {e : Expr} {es : List Expr} {t : TA} {k : Nat} {ps : List Str} {sp : Sp} (G : OkX X.prog X.w X.K X.mg X.base k x ps sp) (hr : Room k X.A) (ha : PA X (e :: es) t) (hg : Gl X x := by rfl) (hdb : (x == ("__debug__" : Str)) = false := by decide)
    (he : starEach (e :: es) X.env = (false, eval e X.env) :: starEach es X.env := by rfl) (hpl : (backTo pos (starEach es X.env)).any (·.1) = false := by rfl) : PE X (.Call (.Name x p) (e :: es) [] pos) (tCall sp [] E0 t) := by
  obtain ⟨fd, F, b⟩ := G.ex
  exact pe_call F hr hg G.g G.kp b .nil passL ha hdb he hpl
/-- called where it may -/
theorem pcX {X : Cx} {W : WX} (tk : Takes X W) {x : Str} {p pos : Pos} {e : Expr} {es : List Expr} {t : TA} {k : Nat} {ps : List Str} {sp : Sp} (G : OkX X.prog X.w X.K X.mg X.base k x ps sp) (hr : Room k X.A) (ha : PA X (e :: es) t) (hg : Gl X x := by rfl) (hdb : (x == ("__debug__" : Str)) = false := by decide)
    (he : starEach (e :: es) X.env = (false, eval e X.env) :: starEach es X.env := by rfl) (hpl : (backTo pos (starEach es X.env)).any (·.1) = false := by rfl) : PE X (.Call (.Name x p) (e :: es) [] pos) (tCallS sp (fun σ => WE W σ) t) := by
  obtain ⟨fd, F, b⟩ := G.ex
  exact pe_callS F hr hg G.g G.kp b (fun σ => passAt tk σ) ha hdb he hpl
/-! ### bags: what callers know -/
theorem ck_range {c : Int} (h : isCk c) : 2 ≤ c ∧ c ≤ 7 := by
  rcases h with rfl | rfl | rfl | rfl <;> constructor <;> decide
theorem Lk.of_num {c : Int} {l m : Tb} (hl : Nd l) (hm : Nd m) (h : ∀ x, num l x = num m x) : Lk c l m := fun x => by rw [tot_num hl, tot_num hm, h x]
theorem lk_canon {c : Int} {l : Tb} (h : Nd l) : Lk c (canon l) l := Lk.of_num (canon_nd h) h (canon_num h)
theorem lk_tidy {c : Int} {l : Tb} (h : Nd l) : Lk c (tidyM c l) l := fun x => by rw [tot_num (tidy_nd h), tot_num h, num_tidy h, Int.emod_emod_of_dvd _ (Int.dvd_refl c)]
theorem lk_addT {c : Int} {es a : Tb} (h : Nd a) : Lk c (addT es a) (a ++ es) := fun x => by rw [tot_num (nd_addT _ _ h), num_addT, tot_app, tot_num h]
theorem lk_same {c : Int} {m k m' k' : Nat} {l l' : Tb} (hc : 0 < c) (h : VT c m k l) (h' : VT c m' k' l') (e : Lk c l l') : canon l = canon l' :=
  vt_ext h h' fun x => by
    have := e x
    rw [tot_num h.nd, tot_num h'.nd, num_mod hc h, num_mod hc h'] at this
    exact this
theorem lk_diff {c : Int} {m k m' k' : Nat} {l l' : Tb} (hc : 0 < c) (h : VT c m k l) (h' : VT c m' k' l') (e : canon l = canon l') : Lk c l l' := (lk_canon h.nd).symm.trans (e ▸ lk_canon h'.nd)
theorem lk_plus {c f : Int} {m k m' k' : Nat} {l1 l2 : Tb} (hc : 0 < c) (h1 : VT c m k l1) (h2 : VT c m k' l2) : Lk c (plusM c l1 l2 f) (l1 ++ scl f l2) := fun x => by
  rw [tot_num (vt_plusM hc h1 h2 f).nd, num_plusM (m' := 0) hc h1 h2, tot_app, tot_scl, tot_num h1.nd, tot_num h2.nd, Int.emod_emod_of_dvd _ (Int.dvd_refl c)]
theorem lk_prod {c : Int} {m1 k1 m2 k2 : Nat} {l1 l2 : Tb} (hc : 0 < c) (h1 : VT c m1 k1 l1) (h2 : VT c m2 k2 l2) : Lk c (prodM c l1 l2) (prs l1 l2) := fun x => by
  rw [tot_num (vt_prodM hc h1 h2).nd, num_prodM hc h1 h2, Int.emod_emod_of_dvd _ (Int.dvd_refl c)]
/-- a Bag of a table -/
def Bg (K : PySem.W.Frag) (H : Hp) (b : Addr) (c : Int) (m k : Nat) (l : Tb) : Prop := BagAt K H b c (canon l) ∧ VT c m k l
theorem Bg.same {K : PySem.W.Frag} {H H' : Hp} {b : Addr} {c : Int} {m k : Nat} {l : Tb} (h : Bg K H b c m k l) (s : Same H H') : Bg K H' b c m k l := ⟨h.1.same s, h.2⟩
theorem Bg.mono {K : PySem.W.Frag} {H : Hp} {b : Addr} {c : Int} {m k m' k' : Nat} {l : Tb} (h : Bg K H b c m k l) (h1 : m ≤ m') (h2 : k ≤ k') : Bg K H b c m' k' l := ⟨h.1, h.2.mono h1 h2⟩
theorem putF_flds (c : Int) (t t' : Addr) : putF "words" (.ref t') (flds c t) = flds c t' := by
  rw [flds_eq, flds_eq]
  show (if ("clock" : Str) = "words" then (("words" : Str), V.ref t') :: [("words", V.ref t)] else (("clock" : Str), V.int c) :: putF "words" (.ref t') [("words", V.ref t)]) = _
  rw [if_neg kwc]
  show (("clock" : Str), V.int c) :: (if ("words" : Str) = "words" then [(("words" : Str), V.ref t')] else _) = _
  rw [if_pos rfl]
section
variable {P : Program} {w : World} {K : PySem.W.Frag} {mg : Str → Option Value} {base : Heap}
def spTable (K : PySem.W.Frag) : Sp := fun vs H Q _ => ∃ (a : Addr) (c : Int) (L : Tb), vs = [.ref a] ∧ BagAt K H a c L ∧ Nd L ∧ ∀ D, H D = none → Q (.ref D) (upd H D (.dK (kv L)))
theorem pairs_kv {K : PySem.W.Frag} {H : Hp} {ps : List Addr} {L : Tb} (h : Paired (fun p (q : Str × Int) => H p = some (.tup [.str q.1, .int q.2])) ps L) : Paired (fun p (x : Key × V) => SqT K H p [kV x.1, x.2]) ps (kv L) := by
  induction h with
  | nil => exact .nil
  | cons e _ ih => exact .cons (.inl (.inl e)) ih
abbrev nTable : List Str := ["bag"]
theorem sc_table_of : FnScope nTable nTable (defScope s_table_of) := ⟨rfl, rfl, rfl, by decide +kernel, rfl, by decide +kernel, by decide +kernel⟩
theorem ok_table_of (T : Top K mg) : Ok P w K mg base 1 "table_of" nTable (spTable K) := by
  obtain ⟨fd, F⟩ := fn_table_of T
  refine ⟨⟨fd, ?_, F.bindsN fun _ _ _ _ _ _ us hl => match us, hl with | [_], _ => rfl⟩, g_table_of T, F.kp⟩
  refine F.ok sc_table_of (fun vs H Q E h => ?_) (fun cdv A outer s H vs Q E hr h => ?_)
  · obtain ⟨a, c, L, rfl, _⟩ := h
    rfl
  · obtain ⟨a, c, L, rfl, ⟨dx, t, ea, ps, o, hps, hpt, hpr⟩, hnd, q⟩ := h
    refine ⟨_, PSs.nox (pss_one (ps_ret (pe_callTy (call_dictPT rfl) (by rfl) (f_dict T) (by decide +kernel) (pa_cons (pe_fld (pv 0) rfl) pa_nil)))), ?_⟩
    refine ⟨_, rfl, a, _, dx, _, _, rfl, ea, cls_Bag T, na_Bag_words T, flds_words _ _, ?_⟩
    refine ⟨t, o, ps, kv L, rfl, hps, hpt, pairs_kv hpr, fun D nD => ?_⟩
    rw [merge_kv hnd]
    exact q D nD
def spBagOf (K : PySem.W.Frag) : Sp := fun vs H Q _ => ∃ (c : Int) (d : Addr) (l : Tb), vs = [.int c, .ref d] ∧ isCk c ∧ H d = some (.dK (kv l)) ∧ Nd l ∧ (∀ p ∈ l, p.1.length ≤ 1000000) ∧ l.length ≤ 1000000 ∧
  ∀ H' b, Same H H' → H b = none → BagAt K H' b c (canon (tidyM c l)) → Q (.ref b) H'
abbrev nBagOf : List Str := ["clock", "table", "bag"]
theorem sc_bag_of : FnScope nBagOf ["clock", "table"] (defScope s_bag_of) := ⟨rfl, rfl, rfl, by decide +kernel, rfl, by decide +kernel, by decide +kernel⟩
theorem made_dict {H : Hp} {d x dx : Addr} {o u v : HO} (hd : H d = some o) (hx : H x = none) (hdx : H dx = none) : (upd (upd H dx u) x v) d = some o := by
  rw [upd_ne (ne_of_none hd hx), upd_ne (ne_of_none hd hdx)]
  exact hd
theorem made_same {H H' : Hp} {x dx : Addr} {u v : HO} (k : But x (upd (upd H dx u) x v) H') (hx : H x = none) (hdx : H dx = none) : Same H H' := fun b o e => by
  refine k b o ?_ (ne_of_none e hx)
  rw [upd_ne (ne_of_none e hx), upd_ne (ne_of_none e hdx)]
  exact e
theorem ok_bag_of (T : Top K mg) : Ok P w K mg base 7 "bag_of" ["clock", "table"] (spBagOf K) := by
  obtain ⟨fd, F⟩ := fn_bag_of T
  refine ⟨⟨fd, ?_, F.bindsN fun _ _ _ _ _ _ us hl => match us, hl with | [_, _], _ => rfl⟩, g_bag_of T, F.kp⟩
  refine F.ok sc_bag_of (fun vs H Q E h => ?_) (fun cdv A outer s H vs Q E hr h => ?_)
  · obtain ⟨c, d, l, rfl, _⟩ := h
    rfl
  · obtain ⟨c, d, l, rfl, hc, hd, hnd, hwl, hll, q⟩ := h
    have nd := sc_bag_of.nd
    have hu := hu_of hr
    have hr1 : Room 1 _ := hr.mono (by decide)
    have hr2 : Room 2 _ := hr.mono (by decide)
    obtain ⟨hc2, hc7⟩ := ck_range hc
    refine ⟨_, PSs.nox (pss_cons (ps_set (i := 2) nd rfl (Or.inl rfl) (pbag T hr (pa_cons (pv 0) (pa_cons pe_dnewK pa_nil))))
      (pss_cons (ps_fld (pv 2) (pc (ok_pairs_of T) hr2 (pa_cons (pc (ok_tidied T) hr1 (pa_cons (pv 1) (pa_cons (pv 0) pa_nil))) pa_nil)) rfl)
      (pss_one (ps_ret (pv 2))))), ?_⟩
    refine ⟨_, rfl, fun D hD b dx hb hdx ne => ?_⟩
    refine ⟨b, D, dx, c, [], rfl, upd_same, hc, made_dict upd_same hb hdx, (vt_nil c 12).mono (Nat.le_refl _) (by decide), fun H1 k1 hb1 => ⟨rfl, ?_⟩⟩
    have s1 : Same H H1 := (same_upd hD).trans (made_same k1 hb hdx)
    have hb0 : H b = none := (same_upd hD).free hb
    refine ⟨_, rfl, _, rfl, d, c, l, rfl, by omega, s1 _ _ hd, hnd, hll, fun H2 D2 s2 nD2 eD2 => ?_⟩
    refine ⟨D2, tidyM c l, rfl, eD2, tidy_nd hnd, fun p hp => ?_, Nat.le_trans tidy_len hll, fun H3 t s3 nt wt => ?_⟩
    · obtain ⟨p', h1, rfl, _⟩ := tidy_keys hp
      exact hwl p' h1
    obtain ⟨dx', t0, eb, w0⟩ := (hb1.same s2).same s3
    refine ⟨_, rfl, b, _, dx', _, rfl, eb, cls_Bag T, na_Bag_words T, by rw [flds_eq]; show 2 < 1000; decide, ?_⟩
    refine ⟨_, rfl, q _ b (fun y o e => ?_) hb0 ⟨dx', t, ?_, ?_⟩⟩
    · rw [upd_ne (ne_of_none e hb0)]
      exact s3 _ _ (s2 _ _ (s1 _ _ e))
    · rw [upd_same, putF_flds]
      rfl
    · refine wt.but (a := b) but_upd (fun e => ?_) fun xs z => ?_
      · obtain ⟨ps, o, h1, _⟩ := wt
        rw [e, eb] at h1
        cases h1
      · rw [eb] at z
        cases z
/-! ### unlike clocks -/
def spClocks (K : PySem.W.Frag) : Sp := fun vs H Q E => ∃ (a b : Addr) (c c' : Int) (L M : Tb), vs = [.ref a, .ref b] ∧ BagAt K H a c L ∧ BagAt K H b c' M ∧ (c = c' → Q .non H) ∧ (c ≠ c' → E (.ref (He.ga K "UnlikeClocks")) none H)
abbrev nClocks : List Str := ["one", "other"]
theorem sc_check_clocks : FnScope nClocks nClocks (defScope s_check_clocks) := ⟨rfl, rfl, rfl, by decide +kernel, rfl, by decide +kernel, by decide +kernel⟩
theorem ok_check_clocks (T : Top K mg) : OkX P w K mg base 1 "check_clocks" nClocks (spClocks K) := by
  obtain ⟨fd, F⟩ := fn_check_clocks T
  obtain ⟨x1, x2, x3, x4⟩ := e_UnlikeClocks T
  refine ⟨⟨fd, ?_, F.bindsN fun _ _ _ _ _ _ us hl => match us, hl with | [_, _], _ => rfl⟩, g_check_clocks T, F.kp⟩
  refine F.ok sc_check_clocks (fun vs H Q E h => ?_) (fun cdv A outer s H vs Q E hr h => ?_)
  · obtain ⟨a, b, c, c', L, M, rfl, _⟩ := h
    rfl
  · obtain ⟨a, b, c, c', L, M, rfl, ⟨dx, t, ea, _⟩, ⟨dy, t', eb, _⟩, q1, q2⟩ := h
    refine ⟨_, pss_one (ps_if (pt_cmpR op_ne (pe_fld (pv 0) rfl) (pe_fld (pv 1) rfl) (nomark _)) (pss_one (ps_raise rfl (takes_of rfl rfl rfl rfl) (pmk_own0 PySem.F.excBase_ValueError x1 (g_UnlikeClocks T) x2 (raises_own x3 x4) rfl))) pss_nil), ?_⟩
    refine ⟨_, rfl, a, _, dx, _, _, rfl, ea, cls_Bag T, na_Bag_clock T, flds_clock _ _, _, rfl, b, _, dy, _, _, rfl, eb, cls_Bag T, na_Bag_clock T, flds_clock _ _, rfl, _, rfl, ?_⟩
    refine ite2 (fun hne => ?_) (fun hne => ?_)
    · refine q2 fun z => ?_
      rw [z] at hne
      simp at hne
    · refine q1 ?_
      simpa using hne
end
end Fp

set_option Elab.async false
set_option linter.all false
set_option maxRecDepth 100000
set_option maxHeartbeats 4000000
namespace Fp
open PySem PySem.Spec PyProof.Rows L2
theorem scl_one (l : Tb) : scl 1 l = l := by
  unfold scl
  have : (fun p : Str × Int => ((p.1, 1 * p.2) : Str × Int)) = id := by
    funext p
    show ((p.1, 1 * p.2) : Str × Int) = p
    rw [Int.one_mul]
  rw [this, List.map_id]
theorem canon_len (l : Tb) : (canon l).length = l.length := by
  unfold canon
  rw [List.length_map, ordW_len]
/-- one table laid to another one, tidied -/
theorem vt_sum {c f : Int} {m k m' k' : Nat} {l l' : Tb} (hc : 0 < c) (h : VT c m k l) (h' : VT c m' k' l') : VT c (max m m') (k + k') (tidyM c (addT (scl f l') l)) ∧ Lk c (tidyM c (addT (scl f l') l)) (l ++ scl f l') := by
  have n1 := nd_addT (scl f l') l h.nd
  refine ⟨(vt_tidy (m := max m m') hc n1 fun p hp => ?_).mono (Nat.le_refl _) ?_, (lk_tidy n1).trans (lk_addT h.nd)⟩
  · rcases key_addT _ _ p hp with ⟨q, h1, h2⟩ | ⟨q, h1, h2⟩
    · rw [← h2]
      have := h.wd q h1
      exact ⟨this.1, by omega⟩
    · unfold scl at h1
      obtain ⟨r, h3, rfl⟩ := List.mem_map.mp h1
      rw [← h2]
      have := h'.wd r h3
      exact ⟨this.1, by show r.1.length ≤ _; omega⟩
  · have := len_addT (scl f l') l
    rw [scl_len] at this
    have := h.ln
    have := h'.ln
    omega
/-- one table behind another one, tidied -/
theorem vt_mul {c : Int} {m k m' k' : Nat} {l l' : Tb} (hc : 0 < c) (h : VT c m k l) (h' : VT c m' k' l') : VT c (m + m') (k * k') (tidyM c (multT l l')) ∧ Lk c (tidyM c (multT l l')) (prs l l') := by
  have n1 : Nd (multT l l') := nd_addT _ _ (show Nd [] from List.nodup_nil)
  have e : Lk c (multT l l') (prs l l') := lk_addT (a := []) (show Nd [] from List.nodup_nil)
  refine ⟨(vt_tidy (m := m + m') hc n1 fun p hp => ?_).mono (Nat.le_refl _) ?_, (lk_tidy n1).trans e⟩
  · rcases key_addT _ _ p hp with ⟨q, h1, h2⟩ | ⟨q, h1, h2⟩
    · cases h1
    · unfold prs at h1
      obtain ⟨r, h3, h4⟩ := List.mem_flatMap.mp h1
      obtain ⟨s, h5, rfl⟩ := List.mem_map.mp h4
      rw [← h2]
      have a1 := h.wd r h3
      have a2 := h'.wd s h5
      refine ⟨xyz_app a1.1 a2.1, ?_⟩
      show (r.1 ++ s.1).length ≤ _
      rw [len_app]
      omega
  · have := len_addT (prs l l') []
    rw [prs_len] at this
    have b4 : ([] : Tb).length = 0 := rfl
    have b5 : l.length * l'.length ≤ k * k' := Nat.mul_le_mul h.ln h'.ln
    unfold multT
    omega
theorem vt_again {c : Int} {m k : Nat} {l : Tb} (hc : 0 < c) (h : VT c m k l) : VT c m k (tidyM c l) ∧ Lk c (tidyM c l) l :=
  ⟨(vt_tidy hc h.nd h.wd).mono (Nat.le_refl _) h.ln, lk_tidy h.nd⟩
section
variable {P : Program} {w : World} {K : PySem.W.Frag} {mg : Str → Option Value} {base : Heap}
def spTog (K : PySem.W.Frag) : Sp := fun vs H Q E => ∃ (a b : Addr) (c c' : Int) (m k m' k' : Nat) (l l' : Tb), vs = [.ref a, .ref b] ∧ Bg K H a c m k l ∧ Bg K H b c' m' k' l' ∧ isCk c ∧ m ≤ 1000 ∧ m' ≤ 1000 ∧ k + k' ≤ 400000 ∧
  (c = c' → ∀ H' r t, Same H H' → H r = none → Bg K H' r c (max m m') (k + k') t → Lk c t (l ++ l') → Q (.ref r) H') ∧ (c ≠ c' → E (.ref (He.ga K "UnlikeClocks")) none H)
abbrev nTog : List Str := ["one", "other"]
theorem sc_together : FnScope nTog nTog (defScope s_together) := ⟨rfl, rfl, rfl, by decide +kernel, rfl, by decide +kernel, by decide +kernel⟩
theorem ok_together (T : Top K mg) : OkX P w K mg base 8 "together" nTog (spTog K) := by
  obtain ⟨fd, F⟩ := fn_together T
  refine ⟨⟨fd, ?_, F.bindsN fun _ _ _ _ _ _ us hl => match us, hl with | [_, _], _ => rfl⟩, g_together T, F.kp⟩
  refine F.ok sc_together (fun vs H Q E h => ?_) (fun cdv A outer s H vs Q E hr h => ?_)
  · obtain ⟨a, b, c, c', m, k, m', k', l, l', rfl, _⟩ := h
    rfl
  · obtain ⟨a, b, c, c', m, k, m', k', l, l', rfl, h1, h2, hck, hm, hm', hk, q1, q2⟩ := h
    have hr1 : Room 1 _ := hr.mono (by decide)
    have hr2 : Room 2 _ := hr.mono (by decide)
    obtain ⟨hc2, hc7⟩ := ck_range hck
    have hc0 : 0 < c := by omega
    obtain ⟨dx, t, ea, wa⟩ := id h1.1
    refine ⟨_, pss_cons (ps_expr (pcX (takes_of rfl rfl rfl rfl) (ok_check_clocks T) hr1 (pa_cons (pv 0) (pa_cons (pv 1) pa_nil))))
      (pss_one (ps_ret (pc (ok_bag_of T) hr (pa_cons (pe_fld (pv 0) rfl) (pa_cons (pc (ok_added T) hr2 (pa_cons (pc (ok_table_of T) hr1 (pa_cons (pv 0) pa_nil)) (pa_cons (pc (ok_table_of T) hr1 (pa_cons (pv 1) pa_nil)) (pa_cons pe_int (pa_cons (pe_fld (pv 0) rfl) pa_nil))))) pa_nil))))), ?_⟩
    refine ⟨_, rfl, _, rfl, a, b, c, c', _, _, rfl, h1.1, h2.1, fun hcc => ?_, fun hcc => q2 hcc⟩
    subst hcc
    have v1 := vt_canon h1.2
    have v2 := vt_canon h2.2
    refine ⟨_, rfl, a, _, dx, _, _, rfl, ea, cls_Bag T, na_Bag_clock T, flds_clock _ _, ?_⟩
    refine ⟨_, rfl, a, c, canon l, rfl, h1.1, v1.nd, fun D1 hD1 => ?_⟩
    have s1 := same_upd (o := .dK (kv (canon l))) hD1
    refine ⟨_, rfl, b, c, canon l', rfl, h2.1.same s1, v2.nd, fun D2 hD2 => ?_⟩
    have s2 := same_upd (o := .dK (kv (canon l'))) hD2
    refine ⟨_, rfl, a, _, dx, _, _, rfl, s2 _ _ (s1 _ _ ea), cls_Bag T, na_Bag_clock T, flds_clock _ _, ?_⟩
    refine ⟨D1, D2, 1, c, canon l, canon l', rfl, hc0, hc7, s2 _ _ upd_same, upd_same, v1.nd, v2.nu, Nat.le_trans v1.ln (by omega), Nat.le_trans v2.ln (by omega), fun H3 D3 s3 n3 e3 => ?_⟩
    obtain ⟨w1, w2⟩ := vt_sum (f := 1) hc0 v1 v2
    obtain ⟨w3, w4⟩ := vt_again hc0 w1
    refine ⟨c, D3, _, rfl, hck, e3, w1.nd, fun p hp => Nat.le_trans (w1.wd p hp).2 (by omega), Nat.le_trans w1.ln (by omega), fun H4 r s4 n4 hb4 => ?_⟩
    have s := ((s1.trans s2).trans s3)
    refine q1 rfl H4 r _ (s.trans s4) (s.free n4) ⟨hb4, w3⟩ (w4.trans (w2.trans ?_))
    rw [scl_one]
    exact (lk_canon h1.2.nd).app (lk_canon h2.2.nd)
def spBeh (K : PySem.W.Frag) : Sp := fun vs H Q E => ∃ (a b : Addr) (c c' : Int) (m k m' k' : Nat) (l l' : Tb), vs = [.ref a, .ref b] ∧ Bg K H a c m k l ∧ Bg K H b c' m' k' l' ∧ isCk c ∧ m ≤ 1000 ∧ m' ≤ 1000 ∧ k * k' ≤ 900000 ∧
  (c = c' → ∀ H' r t, Same H H' → H r = none → Bg K H' r c (m + m') (k * k') t → Lk c t (prs l l') → Q (.ref r) H') ∧ (c ≠ c' → E (.ref (He.ga K "UnlikeClocks")) none H)
theorem sc_behind : FnScope nTog nTog (defScope s_behind) := ⟨rfl, rfl, rfl, by decide +kernel, rfl, by decide +kernel, by decide +kernel⟩
theorem ok_behind (T : Top K mg) : OkX P w K mg base 8 "behind" nTog (spBeh K) := by
  obtain ⟨fd, F⟩ := fn_behind T
  refine ⟨⟨fd, ?_, F.bindsN fun _ _ _ _ _ _ us hl => match us, hl with | [_, _], _ => rfl⟩, g_behind T, F.kp⟩
  refine F.ok sc_behind (fun vs H Q E h => ?_) (fun cdv A outer s H vs Q E hr h => ?_)
  · obtain ⟨a, b, c, c', m, k, m', k', l, l', rfl, _⟩ := h
    rfl
  · obtain ⟨a, b, c, c', m, k, m', k', l, l', rfl, h1, h2, hck, hm, hm', hk, q1, q2⟩ := h
    have hr1 : Room 1 _ := hr.mono (by decide)
    have hr2 : Room 2 _ := hr.mono (by decide)
    obtain ⟨hc2, hc7⟩ := ck_range hck
    have hc0 : 0 < c := by omega
    obtain ⟨dx, t, ea, wa⟩ := id h1.1
    refine ⟨_, pss_cons (ps_expr (pcX (takes_of rfl rfl rfl rfl) (ok_check_clocks T) hr1 (pa_cons (pv 0) (pa_cons (pv 1) pa_nil))))
      (pss_one (ps_ret (pc (ok_bag_of T) hr (pa_cons (pe_fld (pv 0) rfl) (pa_cons (pc (ok_multiplied T) hr2 (pa_cons (pc (ok_table_of T) hr1 (pa_cons (pv 0) pa_nil)) (pa_cons (pc (ok_table_of T) hr1 (pa_cons (pv 1) pa_nil)) (pa_cons (pe_fld (pv 0) rfl) pa_nil)))) pa_nil))))), ?_⟩
    refine ⟨_, rfl, _, rfl, a, b, c, c', _, _, rfl, h1.1, h2.1, fun hcc => ?_, fun hcc => q2 hcc⟩
    subst hcc
    have v1 := vt_canon h1.2
    have v2 := vt_canon h2.2
    refine ⟨_, rfl, a, _, dx, _, _, rfl, ea, cls_Bag T, na_Bag_clock T, flds_clock _ _, ?_⟩
    refine ⟨_, rfl, a, c, canon l, rfl, h1.1, v1.nd, fun D1 hD1 => ?_⟩
    have s1 := same_upd (o := .dK (kv (canon l))) hD1
    refine ⟨_, rfl, b, c, canon l', rfl, h2.1.same s1, v2.nd, fun D2 hD2 => ?_⟩
    have s2 := same_upd (o := .dK (kv (canon l'))) hD2
    refine ⟨_, rfl, a, _, dx, _, _, rfl, s2 _ _ (s1 _ _ ea), cls_Bag T, na_Bag_clock T, flds_clock _ _, ?_⟩
    have n12 : D1 ≠ D2 := fun e => by
      rw [← e, upd_same] at hD2
      cases hD2
    refine ⟨D1, D2, c, m, k, m', k', canon l, canon l', rfl, hc0, hc7, n12, s2 _ _ upd_same, upd_same, v1, v2, hm, hm', hk, fun H3 D3 s3 n3 e3 => ?_⟩
    obtain ⟨w1, w2⟩ := vt_mul hc0 v1 v2
    obtain ⟨w3, w4⟩ := vt_again hc0 w1
    refine ⟨c, D3, _, rfl, hck, e3, w1.nd, fun p hp => Nat.le_trans (w1.wd p hp).2 (by omega), Nat.le_trans w1.ln (by omega), fun H4 r s4 n4 hb4 => ?_⟩
    have s := ((s1.trans s2).trans s3)
    exact q1 rfl H4 r _ (s.trans s4) (s.free n4) ⟨hb4, w3⟩ (w4.trans (w2.trans (Lk.prs (lk_canon h1.2.nd) (lk_canon h2.2.nd))))
/-! ### powers -/
theorem vt_unit {c : Int} (hc : 2 ≤ c) (m : Nat) : VT c m 1 [("", 1)] := ⟨by show [(("" : Str))].Nodup; simp, fun q hq => by
    have : q = (("" : Str), (1 : Int)) := by simpa using hq
    subst this
    exact ⟨by decide, by show (1 : Int) < c; omega⟩, fun q hq => by
    have : q = (("" : Str), (1 : Int)) := by simpa using hq
    subst this
    exact ⟨by decide +kernel, Nat.zero_le _⟩, Nat.le_refl _⟩
end
end Fp

set_option Elab.async false
set_option linter.all false
set_option maxRecDepth 100000
set_option maxHeartbeats 2000000
/-! a text told backward: s[::-1] -/
namespace L2
open PySem PySem.Spec PyProof.Rows
def revS (z : Str) : Str := ⟨z.cps.toList.reverse.toArray⟩
theorem revS_len (z : Str) : (revS z).length = z.length := by
  show (z.cps.toList.reverse.toArray).size = z.cps.size
  simp
theorem rev_ix (z : Str) : ((Builtin.Str.strSliceIndices none none (-1) z.length).filterMap (z.cps[·]?)).toArray = (revS z).cps := by
  show ((sliceRange ((z.cps.size : Int) - 1) (-1) (-1)).filterMap (z.cps[·]?)).toArray = _
  rw [PySem.W.krv_sliceRange, PySem.W.krv_range, List.filterMap_reverse, PySem.W.krv_all]
  rfl
def tRevS (te : TE) : TE := fun σ H Q => te σ H fun x H1 => ∃ z, x = .str z ∧ z.length ≤ sizeLine ∧ Q (.str (revS z)) H1
theorem pe_revS {X : Cx} {e : Expr} {te : TE} {k : Nat} {p1 p2 p3 pos : Pos} (he : PE X e te) : PE X (.Subscript e (.Slice none none (some (.UnaryOp .USub (.Constant (.int 1) k p1) p2)) p3) pos) (tRevS te) := by
  refine ⟨fun pins s σ H Q I h => ?_⟩
  refine Subscript_ (thn (he.run pins s σ H _ I h) fun v s1 ⟨x, H1, I1, r1, q1⟩ => ?_)
  obtain ⟨z, ex, hz, q⟩ := q1
  subst ex
  obtain ⟨t, rfl⟩ := r1
  have hst : PO X (some (.UnaryOp .USub (.Constant (.int 1) k p1) p2)) (tPart (tUn (rU fun i => .int (-i)) (tC (.int 1)))) := po_some (pe_un un_neg pe_int)
  refine wpAny_Slice (thn (po_none.run pins s1 σ H1 (fun o H2 => o = none ∧ H2 = H1) I1 ⟨rfl, rfl⟩) fun vl s2 ⟨l, H2, I2, pl, el, e2⟩ => ?_)
  subst el e2
  refine thn (po_none.run pins s2 σ H2 (fun o H3 => o = none ∧ H3 = H2) I2 ⟨rfl, rfl⟩) fun vu s3 ⟨u, H3, I3, pu, eu, e3⟩ => ?_
  subst eu e3
  refine thn (hst.run pins s3 σ H3 (fun o H4 => o = some (-1) ∧ H4 = H3) I3 ⟨1, rfl, -1, rfl, rfl, rfl⟩) fun vs s4 ⟨o, H4, I4, ps, eo, e4⟩ => ?_
  subst eo e4
  have I5 : Inv X pins σ H4 { s4 with heap := s4.heap.push { cls := .type "slice", data := .fields #[vl, vu, vs] } } := I4.kept (t' := s4.toks) fun b ob q => Heap.get?_push_of_some _ q
  obtain ⟨l, rfl, hl⟩ := IsPart.raw pl
  obtain ⟨u, rfl, hu⟩ := IsPart.raw pu
  obtain ⟨st, rfl, hst'⟩ := IsPart.raw ps
  show wpAny (model X.prog X.w) X.A (subscriptTail e (.Slice none none (some (.UnaryOp .USub (.Constant (.int 1) k p1) p2)) p3) (.str z t) (.ref s4.heap.objs.size)) (EP X pins σ Q) X.xe { s4 with heap := s4.heap.push { cls := .type "slice", data := .fields #[partValue l, partValue u, partValue st] } }
  refine tail_any (ops := [.str z t, .ref s4.heap.objs.size]) (typeIs_str _ z t) (F.slot_str_getitem.lookup) ?_ (by with_unfolding_all rfl)
  refine wpAny_getItem_str_slice (l := l) (u := u) (st := st) ⟨_, Heap.get?_push_size _ rfl, rfl, rfl⟩ (by rw [hst'] <;> rfl) ?_
  have e1 : (st.map (·.1)).getD 1 = -1 := by rw [hst'] <;> rfl
  show Made.post (if (((st.map (·.1)).getD 1) == 1 && (Builtin.Str.strSliceIndices (l.map (·.1)) (u.map (·.1)) ((st.map (·.1)).getD 1) z.length).length == z.length) = true then Made.val (.str z t)
    else Made.str ⟨((Builtin.Str.strSliceIndices (l.map (·.1)) (u.map (·.1)) ((st.map (·.1)).getD 1) z.length).filterMap (z.cps[·]?)).toArray⟩) (EP X pins σ Q) _
  rw [e1, hl, hu, if_neg (by simp), rev_ix]
  refine ⟨?_, .str _, H4, I5.tok _, ⟨_, rfl⟩, q⟩
  show (revS z).length ≤ sizeLine
  rw [revS_len]
  exact hz
end L2

set_option Elab.async false
set_option linter.all false
set_option maxRecDepth 100000
set_option maxHeartbeats 4000000
namespace Fp
open PySem PySem.Spec PyProof.Rows L2
/-! ### words told backward -/
theorem cps_app (u v : Str) : (u ++ v).cps.toList = u.cps.toList ++ v.cps.toList := by
  show (u.cps ++ v.cps).toList = _
  exact Array.toList_append
theorem revS_cps (u : Str) : (revS u).cps.toList = u.cps.toList.reverse := rfl
theorem revS_revS (u : Str) : revS (revS u) = u := PySem.W.str_of_cps (by rw [revS_cps, revS_cps, List.reverse_reverse])
theorem revS_app (u v : Str) : revS (u ++ v) = revS v ++ revS u := PySem.W.str_of_cps (by rw [revS_cps, cps_app, cps_app, revS_cps, revS_cps, List.reverse_append])
theorem revS_inj {u v : Str} (h : revS u = revS v) : u = v := by rw [← revS_revS u, h, revS_revS]
theorem xyz_rev {u : Str} (h : xyz u) : xyz (revS u) := fun c hc => h c (by rw [revS_cps] at hc; exact List.mem_reverse.mp hc)
def revT (l : Tb) : Tb := l.map fun p => (revS p.1, p.2)
theorem revT_cons (p : Str × Int) (l : Tb) : revT (p :: l) = (revS p.1, p.2) :: revT l := rfl
theorem revT_revT (l : Tb) : revT (revT l) = l := by
  unfold revT
  rw [List.map_map]
  have : ((fun p : Str × Int => ((revS p.1, p.2) : Str × Int)) ∘ fun p : Str × Int => ((revS p.1, p.2) : Str × Int)) = id := by
    funext p
    show ((revS (revS p.1), p.2) : Str × Int) = p
    rw [revS_revS]
  rw [this, List.map_id]
theorem revT_tot (l : Tb) (x : Str) : tot (revT l) x = tot l (revS x) := by
  induction l with
  | nil => rfl
  | cons p r ih =>
    rw [revT_cons, tot_cons, tot_cons, ih]
    by_cases h : p.1 = revS x
    · rw [if_pos h, if_pos (show revS p.1 = x by rw [h, revS_revS])]
    · rw [if_neg h, if_neg (show ¬ revS p.1 = x from fun z => h (by rw [← z, revS_revS]))]
theorem Lk.rev {c : Int} {l l' : Tb} (h : Lk c l l') : Lk c (revT l) (revT l') := fun x => by rw [revT_tot, revT_tot, h]
theorem revT_app (l m : Tb) : revT (l ++ m) = revT l ++ revT m := List.map_append
theorem revT_fwd (p : Str × Int) (m : Tb) : revT (fwd p m) = bwd (revS p.1, p.2) (revT m) := by
  unfold revT fwd bwd
  rw [List.map_map, List.map_map]
  apply List.map_congr_left
  intro q _
  show ((revS (p.1 ++ q.1), p.2 * q.2) : Str × Int) = (revS q.1 ++ revS p.1, q.2 * p.2)
  rw [revS_app, Int.mul_comm]
theorem revT_prs (l m : Tb) (x : Str) : tot (revT (prs l m)) x = tot (prs (revT m) (revT l)) x := by
  induction l with
  | nil =>
    show tot (revT []) x = tot (prs (revT m) []) x
    rw [prs_nil_r]
    rfl
  | cons p r ih =>
    rw [revT_cons, tot_prs_cons_r, prs_cons, revT_app, tot_app, ih]
    congr 1
    show tot (revT (fwd p m)) x = _
    rw [revT_fwd]
theorem revT_nd {l : Tb} (h : Nd l) : Nd (revT l) := by
  unfold Nd revT
  rw [List.map_map]
  show (l.map (revS ∘ fun p => p.1)).Nodup
  rw [← List.map_map]
  exact List.Pairwise.map revS (fun a b hab z => hab (revS_inj z)) h
theorem vt_rev {c : Int} {m k : Nat} {l : Tb} (h : VT c m k l) : VT c m k (revT l) :=
  ⟨revT_nd h.nd, fun p hp => by
    obtain ⟨q, hq, rfl⟩ := List.mem_map.mp hp
    exact h.nu q hq, fun p hp => by
    obtain ⟨q, hq, rfl⟩ := List.mem_map.mp hp
    refine ⟨xyz_rev (h.wd q hq).1, ?_⟩
    show (revS q.1).length ≤ m
    rw [revS_len]
    exact (h.wd q hq).2, by
    unfold revT
    rw [List.length_map]
    exact h.ln⟩
theorem revT_take {l : Tb} {i : Nat} {p : Str × Int} (e : l[i]? = some p) : revT (l.take (i + 1)) = revT (l.take i) ++ [(revS p.1, p.2)] := by
  rw [List.take_add_one, e, revT_app]
  rfl
/-! ### sums over words -/
def wsum (g : Str → Int) (l : Tb) : Int := (l.map fun p => p.2 * g p.1).sum
theorem wsum_cons (g : Str → Int) (p : Str × Int) (l : Tb) : wsum g (p :: l) = p.2 * g p.1 + wsum g l := by
  unfold wsum
  rw [List.map_cons, List.sum_cons]
def ksum (g : Str → Int) (ks : List Str) (l : Tb) : Int := (ks.map fun x => tot l x * g x).sum
theorem ksum_cons (g : Str → Int) (x : Str) (ks : List Str) (l : Tb) : ksum g (x :: ks) l = tot l x * g x + ksum g ks l := by
  unfold ksum
  rw [List.map_cons, List.sum_cons]
theorem ksum_one (g : Str → Int) (p : Str × Int) (l : Tb) : ∀ ks : List Str, ks.Nodup → ksum g ks (p :: l) = (if p.1 ∈ ks then p.2 * g p.1 else 0) + ksum g ks l
  | [], _ => by
    rw [if_neg (by simp)]
    rfl
  | x :: ks, h => by
    obtain ⟨h1, h2⟩ := List.nodup_cons.mp h
    rw [ksum_cons, ksum_cons, ksum_one g p l ks h2, tot_cons]
    by_cases e : p.1 = x
    · subst e
      rw [if_pos rfl, if_neg h1, if_pos List.mem_cons_self, Int.add_mul]
      omega
    · rw [if_neg e, Int.zero_add]
      by_cases hm : p.1 ∈ ks
      · rw [if_pos hm, if_pos (List.mem_cons_of_mem _ hm)]
        omega
      · rw [if_neg hm, if_neg (fun z => by rcases List.mem_cons.mp z with z | z; exact e z; exact hm z)]
        omega
theorem wsum_ksum (g : Str → Int) {ks : List Str} (h : ks.Nodup) : ∀ l : Tb, (∀ p ∈ l, p.1 ∈ ks) → wsum g l = ksum g ks l
  | [], _ => by
    show (0 : Int) = ksum g ks []
    unfold ksum
    induction ks with
    | nil => rfl
    | cons x r ih =>
      rw [List.map_cons, List.sum_cons, ← ih (List.nodup_cons.mp h).2 (fun p hp => by cases hp), tot_nil, Int.zero_mul]
      rfl
  | p :: l, hk => by
    rw [wsum_cons, ksum_one g p l ks h, if_pos (hk p List.mem_cons_self), wsum_ksum g h l fun q hq => hk q (List.mem_cons_of_mem _ hq)]
theorem keys_ex : ∀ xs : List Str, ∃ ks : List Str, ks.Nodup ∧ ∀ x ∈ xs, x ∈ ks
  | [] => ⟨[], List.nodup_nil, fun x hx => by cases hx⟩
  | x :: r => by
    obtain ⟨ks, h1, h2⟩ := keys_ex r
    by_cases hx : x ∈ ks
    · exact ⟨ks, h1, fun y hy => by rcases List.mem_cons.mp hy with rfl | hy; exact hx; exact h2 y hy⟩
    · exact ⟨x :: ks, List.nodup_cons.mpr ⟨hx, h1⟩, fun y hy => by rcases List.mem_cons.mp hy with rfl | hy; exact List.mem_cons_self; exact List.mem_cons_of_mem _ (h2 y hy)⟩
theorem ksum_lk {c : Int} {l l' : Tb} (h : Lk c l l') (g : Str → Int) (ks : List Str) : ksum g ks l % c = ksum g ks l' % c := by
  induction ks with
  | nil => rfl
  | cons x r ih => rw [ksum_cons, ksum_cons, Int.add_emod, ih, Int.mul_emod, h x, ← Int.mul_emod, ← Int.add_emod]
/-- a sum over words depends on their numbers by the clock alone -/
theorem wsum_lk {c : Int} {l l' : Tb} (h : Lk c l l') (g : Str → Int) : wsum g l % c = wsum g l' % c := by
  obtain ⟨ks, h1, h2⟩ := keys_ex (l.map (·.1) ++ l'.map (·.1))
  rw [wsum_ksum g h1 l fun p hp => h2 _ (List.mem_append_left _ (List.mem_map.mpr ⟨p, hp, rfl⟩)), wsum_ksum g h1 l' fun p hp => h2 _ (List.mem_append_right _ (List.mem_map.mpr ⟨p, hp, rfl⟩)), ksum_lk h]
/-! ### letters replaced -/
def ev (f : Nat → Tb) : List Nat → Tb
  | [] => [("", 1)]
  | n :: r => prs (f n) (ev f r)
theorem ev_app (f : Nat → Tb) : ∀ a b : List Nat, ev f (a ++ b) = prs (ev f a) (ev f b)
  | [], b => (prs_one_l _).symm
  | n :: r, b => by
    show prs (f n) (ev f (r ++ b)) = prs (prs (f n) (ev f r)) (ev f b)
    rw [ev_app f r b, prs_assoc]
def evW (f : Nat → Tb) (w : Str) : Tb := ev f w.cps.toList
theorem evW_app (f : Nat → Tb) (u v : Str) : evW f (u ++ v) = prs (evW f u) (evW f v) := by
  unfold evW
  rw [cps_app, ev_app]
theorem ev_lk {c : Int} {f g : Nat → Tb} : ∀ cs : List Nat, (∀ n ∈ cs, Lk c (f n) (g n)) → Lk c (ev f cs) (ev g cs)
  | [], _ => Lk.refl _ _
  | n :: r, h => (h n List.mem_cons_self).prs (ev_lk r fun m hm => h m (List.mem_cons_of_mem _ hm))
def repl (f : Nat → Tb) (l : Tb) : Tb := l.flatMap fun p => scl p.2 (evW f p.1)
theorem repl_cons (f : Nat → Tb) (p : Str × Int) (l : Tb) : repl f (p :: l) = scl p.2 (evW f p.1) ++ repl f l := List.flatMap_cons
theorem repl_app (f : Nat → Tb) (l m : Tb) : repl f (l ++ m) = repl f l ++ repl f m := List.flatMap_append
theorem tot_repl (f : Nat → Tb) (l : Tb) (x : Str) : tot (repl f l) x = wsum (fun w => tot (evW f w) x) l := by
  induction l with
  | nil => rfl
  | cons p r ih => rw [repl_cons, tot_app, tot_scl, wsum_cons, ih]
theorem Lk.repl {c : Int} {l l' : Tb} (f : Nat → Tb) (h : Lk c l l') : Lk c (repl f l) (Fp.repl f l') := fun x => by rw [tot_repl, tot_repl, wsum_lk h]
theorem repl_lk {c : Int} {f g : Nat → Tb} (l : Tb) (h : ∀ p ∈ l, ∀ n ∈ p.1.cps.toList, Lk c (f n) (g n)) : Lk c (repl f l) (repl g l) := by
  induction l with
  | nil => exact Lk.refl _ _
  | cons p r ih =>
    rw [repl_cons, repl_cons]
    exact ((ev_lk _ (h p List.mem_cons_self)).scl p.2).app (ih fun q hq => h q (List.mem_cons_of_mem _ hq))
theorem prs_app_l (l m n : Tb) : prs (l ++ m) n = prs l n ++ prs m n := List.flatMap_append
theorem mul4 (a b c d : Int) : (a * c) * (b * d) = (a * b) * (c * d) := by
  rw [Int.mul_assoc, Int.mul_assoc, ← Int.mul_assoc c b d, Int.mul_comm c b, Int.mul_assoc b c d]
theorem scl_prs (a b : Int) (l m : Tb) : prs (scl a l) (scl b m) = scl (a * b) (prs l m) := by
  unfold prs scl
  rw [List.flatMap_map, List.map_flatMap]
  congr 1
  funext p
  rw [List.map_map, List.map_map]
  apply List.map_congr_left
  intro q _
  show ((p.1 ++ q.1, (a * p.2) * (b * q.2)) : Str × Int) = (p.1 ++ q.1, (a * b) * (p.2 * q.2))
  rw [mul4]
theorem tot_repl_fwd (f : Nat → Tb) (p : Str × Int) (m : Tb) (x : Str) : tot (repl f (fwd p m)) x = tot (prs (scl p.2 (evW f p.1)) (repl f m)) x := by
  induction m with
  | nil =>
    show tot (repl f []) x = tot (prs _ (repl f [])) x
    show tot [] x = tot (prs _ []) x
    rw [prs_nil_r]
  | cons q r ih =>
    have e : fwd p (q :: r) = (p.1 ++ q.1, p.2 * q.2) :: fwd p r := rfl
    rw [e, repl_cons, repl_cons, prs_app_r, tot_app, tot_app, ih, scl_prs, evW_app]
theorem tot_repl_prs (f : Nat → Tb) (l m : Tb) (x : Str) : tot (repl f (prs l m)) x = tot (prs (repl f l) (repl f m)) x := by
  induction l with
  | nil => rfl
  | cons p r ih =>
    have e : prs (p :: r) m = fwd p m ++ prs r m := prs_cons p r m
    rw [e, repl_app, repl_cons, prs_app_l, tot_app, tot_app, ih, tot_repl_fwd]
/-- letters by themselves -/
theorem ev_self (f : Nat → Tb) : ∀ cs : List Nat, (∀ n ∈ cs, f n = [(⟨#[n]⟩, 1)]) → ev f cs = [(⟨cs.toArray⟩, 1)]
  | [], _ => rfl
  | n :: r, h => by
    show prs (f n) (ev f r) = _
    rw [h n List.mem_cons_self, ev_self f r fun m hm => h m (List.mem_cons_of_mem _ hm)]
    show ([((⟨#[n]⟩ : Str) ++ (⟨r.toArray⟩ : Str), 1 * 1)] : Tb) = _
    have : (⟨#[n]⟩ : Str) ++ (⟨r.toArray⟩ : Str) = ⟨(n :: r).toArray⟩ := PySem.W.str_of_cps (by rw [cps_app]; rfl)
    rw [this]
    rfl
theorem repl_self (f : Nat → Tb) (l : Tb) (h : ∀ p ∈ l, ∀ n ∈ p.1.cps.toList, f n = [(⟨#[n]⟩, 1)]) : repl f l = l := by
  induction l with
  | nil => rfl
  | cons p r ih =>
    rw [repl_cons, ih fun q hq => h q (List.mem_cons_of_mem _ hq)]
    unfold evW
    rw [ev_self f _ (h p List.mem_cons_self)]
    show (((⟨p.1.cps.toList.toArray⟩ : Str), p.2 * 1) : Str × Int) :: r = p :: r
    rw [Int.mul_one]
end Fp

set_option Elab.async false
set_option linter.all false
set_option maxRecDepth 100000
set_option maxHeartbeats 4000000
namespace Fp
open PySem PySem.Spec PyProof.Rows L2
/-- the pairs at a tuple, told by place -/
theorem WordsAt.get {H : Hp} {t : Addr} {L : Tb} (h : WordsAt H t L) : ∃ (ps : List Addr) (o : Obj), H t = some (.frz o (.tup (ps.map V.ref))) ∧ ps.length = L.length ∧ ∀ (i : Nat) (q : Str × Int), L[i]? = some q → ∃ p, ps[i]? = some p ∧ H p = some (.tup [.str q.1, .int q.2]) := by
  obtain ⟨ps, o, h1, _, h3⟩ := h
  refine ⟨ps, o, h1, ?_, ?_⟩
  · clear h1
    induction h3 with
    | nil => rfl
    | cons _ _ ih => rw [List.length_cons, List.length_cons, ih]
  · clear h1
    induction h3 with
    | nil => intro i q e; simp at e
    | @cons p q0 ps L e _ ih =>
      intro i q eq
      cases i with
      | zero =>
        have : q0 = q := Option.some.inj eq
        exact ⟨p, rfl, this ▸ e⟩
      | succ i => exact ih i q eq
section
variable {P : Program} {w : World} {K : PySem.W.Frag} {mg : Str → Option Value} {base : Heap}
theorem nd_prefix_has {l : Tb} (h : Nd l) {i : Nat} {p : Str × Int} (e : l[i]? = some p) : has (l.take i) p.1 = false := by
  cases z : has (l.take i) p.1 with
  | false => rfl
  | true =>
    exfalso
    have h1 : Nd (l.take (i + 1)) := by
      unfold Nd
      rw [List.map_take]
      exact (List.take_sublist _ _).nodup h
    unfold Nd at h1
    rw [List.take_add_one, e, List.map_append] at h1
    exact (List.nodup_append.mp h1).2.2 p.1 (has_iff.mp z) p.1 (by simp) rfl
def spMir (K : PySem.W.Frag) : Sp := fun vs H Q _ => ∃ (a : Addr) (c : Int) (m k : Nat) (l : Tb), vs = [.ref a] ∧ Bg K H a c m k l ∧ isCk c ∧ m ≤ 100000 ∧ k ≤ 900000 ∧
  ∀ H' b t, Same H H' → H b = none → Bg K H' b c m k t → Lk c t (revT l) → Q (.ref b) H'
abbrev nMir : List Str := ["bag", "word", "number"]
theorem sc_mirrored : FnScope nMir ["bag"] (defScope s_mirrored) := ⟨rfl, rfl, rfl, by decide +kernel, rfl, by decide +kernel, by decide +kernel⟩
theorem ok_mirrored (T : Top K mg) : Ok P w K mg base 8 "mirrored" ["bag"] (spMir K) := by
  obtain ⟨fd, F⟩ := fn_mirrored T
  refine ⟨⟨fd, ?_, F.bindsN fun _ _ _ _ _ _ us hl => match us, hl with | [_], _ => rfl⟩, g_mirrored T, F.kp⟩
  refine F.ok sc_mirrored (fun vs H Q E h => ?_) (fun cdv A outer s H vs Q E hr h => ?_)
  · obtain ⟨a, c, m, k, l, rfl, _⟩ := h
    rfl
  · obtain ⟨a, c, m, k, l, rfl, hb, hck, hm, hk, q⟩ := h
    have nd := sc_mirrored.nd
    have hs : sizeLine = 16777216 := sizeLine_eq
    obtain ⟨hc2, hc7⟩ := ck_range hck
    have hc0 : 0 < c := by omega
    obtain ⟨dx, t, ea, wt⟩ := id hb.1
    have vc := vt_canon hb.2
    have vr := vt_rev vc
    obtain ⟨ps, o, e1, e2, e3⟩ := WordsAt.get wt
    refine ⟨_, PSs.nox (pss_one (ps_ret (pc (ok_bag_of T) hr (pa_cons (pe_fld (pv 0) rfl) (pa_cons (pe_dc (own := [("word", 1), ("number", 2)]) (g := gPair K 1 2) (tt := tYes) (tk := tRevS (tVar 1)) (tv := tVar 2) rfl nd (pi_tup (pe_fld (pv 0) rfl)) (blkOk_by (N := nMir) (sc := defScope s_mirrored) (by decide +kernel))
        (fun _ _ _ _ _ => pg_tup rfl (pgs_cons (pg_name (i := 1) nd rfl (Or.inl rfl)) (pgs_cons (pg_name (i := 2) nd rfl (Or.inl rfl)) pgs_nil)))
        (fun _ _ _ _ _ => by exact pts_nil) (fun _ _ _ _ _ => by exact pe_revS (pv 1)) (fun _ _ _ _ _ => pv 2)) pa_nil))))), ?_⟩
    refine ⟨_, rfl, a, _, dx, _, _, rfl, ea, cls_Bag T, na_Bag_clock T, flds_clock _ _, ?_⟩
    refine ⟨_, rfl, a, _, dx, _, _, rfl, ea, cls_Bag T, na_Bag_words T, flds_words _ _, ?_⟩
    refine ⟨t, rfl, ⟨_, .inl (.inr ⟨o, e1⟩)⟩, fun D hD => ?_⟩
    refine dc_it (walk_tup (xs := ps.map V.ref)) (fun i H' => H' D = some (.dK (kv (revT ((canon l).take i)))) ∧ Same H H') ⟨upd_same, same_upd hD⟩ (fun i H' _ hP => .inl (.inr ⟨o, hP.2 _ _ e1⟩)) ?_ ?_
    · rintro i x H1 H2 hi ⟨p1, p2⟩ ⟨rfl, e⟩
      rw [List.length_map, e2] at hi
      have ep : (canon l)[i]? = some (canon l)[i] := List.getElem?_eq_getElem hi
      generalize (canon l)[i] = p at ep
      obtain ⟨b, h1, h2⟩ := e3 i p ep
      rw [List.getElem?_map, h1] at e
      have e5 : V.ref b = x := Option.some.inj e
      subst e5
      have hp : p ∈ canon l := List.mem_of_getElem? ep
      have hw := (vc.wd p hp).2
      have hil : i < 900000 := Nat.lt_of_lt_of_le hi (Nat.le_trans vc.ln hk)
      refine ⟨b, _, rfl, .inl (.inl (p2 _ _ h2)), rfl, ?_⟩
      refine ⟨_, _, rfl, _, _, rfl, rfl, rfl, ?_⟩
      have hh : has (revT ((canon l).take i)) (revS p.1) = false := by
        rw [← Bool.not_eq_true, has_iff]
        intro hm'
        obtain ⟨q0, h3, h4⟩ := List.mem_map.mp hm'
        obtain ⟨q1, h5, rfl⟩ := List.mem_map.mp h3
        have h6 : has ((canon l).take i) p.1 = true := has_iff.mpr (List.mem_map.mpr ⟨q1, h5, revS_inj h4⟩)
        rw [nd_prefix_has vc.nd ep] at h6
        cases h6
      refine ⟨_, rfl, _, rfl, by omega, _, rfl, _, Sum.inr (revS p.1), rfl, p1, ?_, ?_, fun y u z => ?_⟩
      · rw [kv_len]
        unfold revT
        rw [List.length_map, List.length_take]
        omega
      · rw [upd_same, putK_kv, revT_take ep]
        unfold putT
        rw [hh, if_neg Bool.false_ne_true]
      · rw [upd_ne (ne_of_none z hD)]
        exact p2 y u z
    · rintro H' ⟨p1, p2⟩
      rw [List.length_map, e2, List.take_length] at p1
      obtain ⟨w3, w4⟩ := vt_again hc0 vr
      refine ⟨c, D, _, rfl, hck, p1, vr.nd, fun p hp => Nat.le_trans (vr.wd p hp).2 (by omega), Nat.le_trans vr.ln (by omega), fun H4 b s4 n4 hb4 => ?_⟩
      exact q H4 b _ (p2.trans s4) (p2.free n4) ⟨hb4, w3⟩ (w4.trans (Lk.rev (lk_canon hb.2.nd)))
def spIsBag (K : PySem.W.Frag) : Sp := fun vs H Q _ => ∃ (a : Addr) (c c' : Int) (L : Tb), vs = [.ref a, .int c'] ∧ BagAt K H a c L ∧ Q (.bl (decide (c = c'))) H
abbrev nIsBag : List Str := ["thing", "clock"]
theorem sc_is_bag : FnScope nIsBag nIsBag (defScope s_is_bag) := ⟨rfl, rfl, rfl, by decide +kernel, rfl, by decide +kernel, by decide +kernel⟩
theorem ok_is_bag (T : Top K mg) : Ok P w K mg base 1 "is_bag" nIsBag (spIsBag K) := by
  obtain ⟨fd, F⟩ := fn_is_bag T
  refine ⟨⟨fd, ?_, F.bindsN fun _ _ _ _ _ _ us hl => match us, hl with | [_, _], _ => rfl⟩, g_is_bag T, F.kp⟩
  refine F.ok sc_is_bag (fun vs H Q E h => ?_) (fun cdv A outer s H vs Q E hr h => ?_)
  · obtain ⟨a, c, c', L, rfl, _⟩ := h
    rfl
  · obtain ⟨a, c, c', L, rfl, ⟨dx, t, ea, hw⟩, q⟩ := h
    refine ⟨_, PSs.nox (pss_one (ps_ret (pe_and (pe_callB call_isi (by rfl) (f_isinstance T) (by decide +kernel) (pa_cons (pv 0) (pa_cons (pe_glob (v := .ref (He.ga K "Bag")) rfl (g_Bag T) rfl) pa_nil)))
      (pe_one (pe_cmpR op_eq (pe_fld (pv 0) rfl) (pv 1) (nomark _)))))), ?_⟩
    refine ⟨_, rfl, _, _, _, _, true, rfl, .own _, .base (.ins ea (cls_Bag T) (x_class T) (x_get T) (x_takes T) (x_mro T)), x_is T, true, rfl, iteT ?_⟩
    refine ⟨_, rfl, a, _, dx, _, _, rfl, ea, cls_Bag T, na_Bag_clock T, flds_clock _ _, _, rfl, rfl, ?_⟩
    have e : decide (V.int c = V.int c') = decide (c = c') := decide_eq_decide.mpr ⟨fun z => by injection z, fun z => by rw [z]⟩
    rw [e]
    exact q
/-! ### the first word -/
def lenL : Tb → Int
  | [] => -1
  | p :: _ => p.1.length
def spLen (K : PySem.W.Frag) : Sp := fun vs H Q _ => ∃ (a : Addr) (c : Int) (L : Tb), vs = [.ref a] ∧ BagAt K H a c L ∧ (∀ p ∈ L, p.1.length ≤ 1000000) ∧ Q (.int (lenL L)) H
theorem sc_length : FnScope ["bag"] ["bag"] (defScope s_length) := ⟨rfl, rfl, rfl, by decide +kernel, rfl, by decide +kernel, by decide +kernel⟩
theorem ok_length (T : Top K mg) : Ok P w K mg base 1 "length" ["bag"] (spLen K) := by
  obtain ⟨fd, F⟩ := fn_length T
  refine ⟨⟨fd, ?_, F.bindsN fun _ _ _ _ _ _ us hl => match us, hl with | [_], _ => rfl⟩, g_length T, F.kp⟩
  refine F.ok sc_length (fun vs H Q E h => ?_) (fun cdv A outer s H vs Q E hr h => ?_)
  · obtain ⟨a, c, L, rfl, _⟩ := h
    rfl
  · obtain ⟨a, c, L, rfl, ⟨dx, t, ea, wt⟩, hw, q⟩ := h
    have hs : sizeLine = 16777216 := sizeLine_eq
    obtain ⟨ps, o, e1, e2, e3⟩ := WordsAt.get wt
    refine ⟨_, PSs.nox (pss_cons (ps_if (pt_not (pt_truth (pe_fld (pv 0) rfl) (fun _ => rfl))) (pss_one (ps_ret (pe_un un_neg pe_int))) pss_nil)
      (pss_one (ps_ret (pe_callB call_len_str (by rfl) (f_len T) PySem.boot_len (pa_cons (pe_ix ix_tup (pe_ix ix_tup (pe_fld (pv 0) rfl) pe_int (fun _ _ => rfl)) pe_int (fun _ _ => rfl)) pa_nil))))), ?_⟩
    refine ⟨_, rfl, a, _, dx, _, _, rfl, ea, cls_Bag T, na_Bag_words T, flds_words _ _, ?_⟩
    refine ⟨_, .inr (.inl ⟨_, .inl (.inr ⟨o, e1⟩), rfl⟩), ?_⟩
    cases L with
    | nil =>
      have : ps = [] := List.eq_nil_of_length_eq_zero e2
      subst this
      refine ite2 (fun _ => ?_) (fun z => absurd rfl z)
      exact ⟨_, rfl, q⟩
    | cons p r =>
      obtain ⟨p0, h1, h2⟩ := e3 0 p rfl
      cases ps with
      | nil => simp at h1
      | cons p1 ps =>
        have : p1 = p0 := Option.some.inj h1
        subst this
        refine ite2 (fun z => absurd z (by simp)) (fun _ => ?_)
        refine ⟨_, rfl, a, _, dx, _, _, rfl, ea, cls_Bag T, na_Bag_words T, flds_words _ _, ?_⟩
        refine ⟨t, _, 0, _, rfl, rfl, .inl (.inr ⟨o, e1⟩), atI_nat (j := 0) (xs := (p1 :: ps).map V.ref) rfl, p1, _, 0, _, rfl, rfl, .inl (.inl h2), rfl, _, rfl, ?_, q⟩
        have := hw p List.mem_cons_self
        omega
end
end Fp

set_option Elab.async false
set_option linter.all false
set_option maxRecDepth 100000
set_option maxHeartbeats 4000000
namespace Fp
open PySem PySem.Spec PyProof.Rows L2
theorem unlock {H H' : Hp} {d : Addr} {o : HO} (hd : H d = some o) (k : But d H H') : Same H (upd H' d o) := fun b x e => by
  by_cases n : b = d
  · rw [n, upd_same, ← hd, ← n, e]
  · rw [upd_ne n]
    exact k b x e n
/-- a dict from letters to objects -/
def kvr (es : List (Nat × Addr)) : List (Key × V) := es.map fun e => ((Sum.inr (⟨#[e.1]⟩ : Str) : Key), V.ref e.2)
theorem kvr_len (es : List (Nat × Addr)) : (kvr es).length = es.length := List.length_map _
theorem kvr_at {es : List (Nat × Addr)} {i : Nat} {k : Key} {v : V} (e : (kvr es)[i]? = some (k, v)) : ∃ p, es[i]? = some p ∧ k = Sum.inr (⟨#[p.1]⟩ : Str) ∧ v = .ref p.2 := by
  unfold kvr at e
  rw [List.getElem?_map] at e
  cases q : es[i]? with
  | none => rw [q] at e; cases e
  | some p =>
    rw [q] at e
    have := Option.some.inj e
    injection this with h1 h2
    exact ⟨p, rfl, h1.symm, h2.symm⟩
theorem one_inj {a b : Nat} (h : (⟨#[a]⟩ : Str) = ⟨#[b]⟩) : a = b := by
  injection h with h
  have := congrArg Array.toList h
  injection this
theorem kvr_val {es : List (Nat × Addr)} (hn : (es.map (·.1)).Nodup) {p : Nat × Addr} (hp : p ∈ es) : valV (kvr es) (Sum.inr (⟨#[p.1]⟩ : Str) : Key) = some (.ref p.2) := by
  induction es with
  | nil => cases hp
  | cons e r ih =>
    obtain ⟨h1, h2⟩ := List.nodup_cons.mp (show (e.1 :: r.map (·.1)).Nodup from hn)
    rcases List.mem_cons.mp hp with rfl | hp
    · exact valV_pos (p := ((Sum.inr (⟨#[p.1]⟩ : Str) : Key), V.ref p.2)) rfl
    · refine (valV_neg (p := ((Sum.inr (⟨#[e.1]⟩ : Str) : Key), V.ref e.2)) (fun z => ?_)).trans (ih h2 hp)
      have := one_inj (Sum.inr.inj z)
      exact h1 (this ▸ List.mem_map.mpr ⟨p, hp, rfl⟩)
theorem xyz_one {n : Nat} (h : n = 120 ∨ n = 121 ∨ n = 122) : xyz ⟨#[n]⟩ := fun c hc => by
  have : c = n := by simpa using hc
  rw [this]
  exact h
section
variable {P : Program} {w : World} {K : PySem.W.Frag} {mg : Str → Option Value} {base : Heap}
/-- bags for letters -/
structure Reps (K : PySem.W.Frag) (H : Hp) (d : Addr) (c : Int) (es : List (Nat × Addr)) : Prop where
  at_ : H d = some (.dK (kvr es))
  nd : (es.map (·.1)).Nodup
  lt : ∀ e ∈ es, e.1 = 120 ∨ e.1 = 121 ∨ e.1 = 122
  bg : ∀ e ∈ es, ∃ M, BagAt K H e.2 c M
  ln : es.length ≤ 3
theorem Reps.same {K : PySem.W.Frag} {H H' : Hp} {d : Addr} {c : Int} {es : List (Nat × Addr)} (h : Reps K H d c es) (s : Same H H') : Reps K H' d c es :=
  ⟨s _ _ h.at_, h.nd, h.lt, fun e he => (h.bg e he).elim fun M hM => ⟨M, hM.same s⟩, h.ln⟩
def spRep (K : PySem.W.Frag) : Sp := fun vs H Q _ => ∃ (a d : Addr) (c : Int) (L : Tb) (es : List (Nat × Addr)), vs = [.ref a, .ref d] ∧ BagAt K H a c L ∧ L.length ≤ 900000 ∧ Reps K H d c es ∧ (∀ p ∈ L, p.1.length ≤ 1000000) ∧
  (∀ p ∈ L, ∀ n ∈ p.1.cps.toList, n ∈ es.map (·.1)) ∧ ∀ H', Same H H' → Q (.bl true) H'
abbrev rSign : R2 := fun x y H Q => ∃ (c : Nat) (z : Str), x = .str ⟨#[c]⟩ ∧ y = .str z ∧ Q (.bl (decide (c ∈ z.cps.toList))) H
abbrev nRep : List Str := ["bag", "thing", "key", "letter", "word", "_"]
theorem sc_rep : FnScope nRep ["bag", "thing"] (defScope s_are_replacements) := ⟨rfl, rfl, rfl, by decide +kernel, rfl, by decide +kernel, by decide +kernel⟩
theorem ok_rep (T : Top K mg) : Ok P w K mg base 2 "are_replacements" ["bag", "thing"] (spRep K) := by
  obtain ⟨fd, F⟩ := fn_are_replacements T
  obtain ⟨tk, hL⟩ := t_LETTERS T
  refine ⟨⟨fd, ?_, F.bindsN fun _ _ _ _ _ _ us hl => match us, hl with | [_, _], _ => rfl⟩, g_are_replacements T, F.kp⟩
  refine F.ok sc_rep (fun vs H Q E h => ?_) (fun cdv A outer s H vs Q E hr h => ?_)
  · obtain ⟨a, d, c, L, es, rfl, _⟩ := h
    rfl
  · obtain ⟨a, d, c, L, es, rfl, hb, hLn, hR, hw, hcov, q⟩ := h
    have hu := hu_of hr
    have nd := sc_rep.nd
    have hs : sizeLine = 16777216 := sizeLine_eq
    have hd := hR.at_
    have hel := hR.ln
    refine ⟨_, PSs.nox (pss_cons (ps_if (pt_not (pt_val (pe_callB call_isi (by rfl) (f_isinstance T) (by decide +kernel) (pa_cons (pv 1) (pa_cons (pe_bltn (v := .ty "dict") (by rfl) (f_dict T) (by decide +kernel) rfl) pa_nil))))) (pss_one (ps_ret pe_bl)) pss_nil)
      (pss_cons (ps_if (pt_not (pt_val (pe_callB (cr_all rfl) (by rfl) (f_all T) (by decide +kernel) (pa_cons (pe_lock (pe_lc (own := [("key", 2)]) (g := gName 2) (tt := tYes) rfl nd (pi_keys (pv 1)) (blkOk_by (N := nRep) (sc := defScope s_are_replacements) (by decide +kernel))
        (fun _ _ _ _ _ => pg_name (i := 2) nd rfl (Or.inl rfl)) (fun _ _ _ _ _ => pts_nil)
        (fun _ _ _ _ _ => pe_and (pc (ok_is_word T) hr (pa_cons (pv 2) pa_nil)) (pe_and (pe_cmpR op_eq (pe_callB call_len_str (by rfl) (f_len T) PySem.boot_len (pa_cons (pv 2) pa_nil)) pe_int (nomark _)) (pe_one (pc (t := tCons (tDGet (tVar 1) (tVar 2)) (tCons (tFld K (tVar 0) "clock") tNil)) (ok_is_bag T) hr (pa_cons (pe_dget hu (pv 1) (pv 2) (fun _ _ => rfl)) (pa_cons (pe_fld (pv 0) rfl) pa_nil)))))))) pa_nil)))) (pss_one (ps_ret pe_bl)) pss_nil)
      (pss_one (ps_ret (pe_callB (cr_all rfl) (by rfl) (f_all T) (by decide +kernel) (pa_cons (pe_lc (own := [("letter", 3)]) (g := gName 3) (tt := tB (tCB (rAny K) (tCons (tLc (iTup K (tFld K (tVar 0) "words")) (gPair K 4 5) tYes (tOp rSign (tVar 3) (tVar 4)) [4, 5]) tNil))) (te := tDIn (tVar 3) (tVar 1)) rfl nd (pi_str (pe_glob (v := .str "xyz") rfl hL ⟨_, rfl⟩)) (blkOk_by (N := nRep) (sc := defScope s_are_replacements) (by decide +kernel))
        (fun _ _ _ _ _ => pg_name (i := 3) nd rfl (Or.inr rfl))
        (fun _ _ _ _ _ => by exact pts_one (pt_val (pe_callB (cr_any rfl) (by rfl) (f_any T) (by decide +kernel) (pa_cons (pe_lc (wi := iTup K (tFld K (tVar 0) "words")) (te := tOp rSign (tVar 3) (tVar 4)) (own := [("word", 4), ("_", 5)]) (g := gPair K 4 5) (tt := tYes) rfl nd (pi_tup (pe_fld (ta := tVar 0) (pv 0) rfl)) (blkOk_by (N := nRep) (by rfl))
          (fun _ _ _ _ _ => pg_tup rfl (pgs_cons (pg_name (i := 4) nd rfl (Or.inl rfl)) (pgs_cons (pg_name (i := 5) nd rfl (Or.inl rfl)) pgs_nil)))
          (fun _ _ _ _ _ => pts_nil) (fun _ _ _ _ _ => pe_cmpR op_in_sign (pv 3) (pv 4) (by rfl))) pa_nil))))
        (fun _ _ _ _ _ => by exact pe_cmp (pc_din hu (pv 3) (pv 1)) rfl)) pa_nil)))))), ?_⟩
    obtain ⟨dx, t, ea, wt⟩ := id hb
    obtain ⟨ps, o, e1, e2, e3⟩ := WordsAt.get wt
    have nad : a ≠ d := ne_of ea hd (by intro z; cases z)
    refine ⟨_, rfl, .ref d, _, _, _, true, rfl, .ty "dict", .base (.dK hd), kit_ty (by decide +kernel), true, rfl, iteF ?_⟩
    refine ⟨d, _, hd, trivial, fun od => ?_⟩
    refine ⟨_, rfl, d, od, rfl, .inl ⟨_, upd_same, fun D hD => ?_⟩⟩
    have nD : D ≠ d := fun e => by
      rw [e, upd_same] at hD
      cases hD
    have hD0 : H D = none := by
      rw [upd_ne nD] at hD
      exact hD
    refine lc_it walk_keys (fun i H' => H' D = some (.lst ((List.replicate i true).map V.bl)) ∧ But d H H' ∧ H' d = some (.frz od (.dK (kvr es)))) ⟨upd_same, ?_, ?_⟩ (fun i H' _ hP => hP.2.2) ?_ ?_
    · intro b' o' y n'
      rw [upd_ne (ne_of_none y hD0), upd_ne n']
      exact y
    · rw [upd_ne nD.symm]
      exact upd_same
    · rintro i x H1 H2 hi ⟨p1, p2, p3⟩ ⟨rfl, k, v, e, rfl⟩
      obtain ⟨p, ep, rfl, rfl⟩ := kvr_at e
      have hp : p ∈ es := List.mem_of_getElem? ep
      rw [kvr_len] at hi
      obtain ⟨M, hM⟩ := hR.bg p hp
      have s2 := unlock hd p2
      refine ⟨rfl, ?_⟩
      refine ⟨_, rfl, (⟨#[p.1]⟩ : Str), rfl, xyz_one (hR.lt p hp), (by show 1 ≤ 1000000; decide), true, rfl, iteT ?_⟩
      refine ⟨_, rfl, (⟨#[p.1]⟩ : Str), rfl, (by show 1 ≤ sizeLine; omega), rfl, true, rfl, iteT ?_⟩
      refine ⟨_, rfl, _, rfl, d, .ref p.2, rfl, .inl ⟨kvr es, Sum.inr (⟨#[p.1]⟩ : Str), .inr ⟨od, p3⟩, rfl, ?_⟩, ?_⟩
      · rw [kvr_val hR.nd hp]
      have hMb : BagAt K H2 p.2 c M := by
        obtain ⟨dx', t', f1, f2⟩ := hM
        obtain ⟨ps', o', g1, g2⟩ := id f2
        refine ⟨dx', t', p2 _ _ f1 (ne_of f1 hd (by intro z; cases z)), f2.but p2 (ne_of g1 hd (by intro z; cases z)) fun ys => by rw [hd]; intro z; cases z⟩
      refine ⟨_, rfl, a, _, dx, _, _, rfl, p2 _ _ ea nad, cls_Bag T, na_Bag_clock T, flds_clock _ _, ?_⟩
      refine ⟨p.2, c, c, M, rfl, hMb, ?_⟩
      rw [decide_eq_true rfl]
      refine ⟨_, p1, ?_, ?_, ?_, ?_⟩
      · rw [List.length_map, List.length_replicate]
        omega
      · rw [upd_same, List.replicate_succ', List.map_append]
        rfl
      · intro b' o' y n'
        rw [upd_ne (ne_of_none y hD0)]
        exact p2 b' o' y n'
      · rw [upd_ne nD.symm]
        exact p3
    rintro H1 ⟨p1, p2, p3⟩
    have s1 := unlock hd p2
    refine ⟨p3, D, List.replicate (kvr es).length true, rfl, .inl (.inl (by rw [upd_ne nD]; exact p1)), ?_⟩
    have eT : ∀ n : Nat, (List.replicate n true).all id = true := fun n => by
      rw [List.all_eq_true]
      intro b hb
      exact (List.mem_replicate.mp hb).2
    rw [eT]
    refine ⟨true, rfl, iteF ?_⟩
    clear p1 p2 p3 nD hD hD0
    replace hb := hb.same s1
    replace hR := hR.same s1
    replace ea := s1 _ _ ea
    replace e1 := s1 _ _ e1
    replace e3 := fun i qq h => (e3 i qq h).elim fun pp hh => (show ∃ p, ps[i]? = some p ∧ _ from ⟨pp, hh.1, s1 _ _ hh.2⟩)
    replace hd := hR.at_
    have q : ∀ H', Same (upd H1 d (.dK (kvr es))) H' → Q (.bl true) H' := fun H' s' => q H' (s1.trans s')
    generalize upd H1 d (.dK (kvr es)) = G at hb hR ea e1 e3 hd q ⊢
    refine ⟨_, rfl, fun D hD => ?_⟩
    refine lc_it walk_str (fun i H' => (∃ n, n ≤ i ∧ H' D = some (.lst ((List.replicate n true).map V.bl))) ∧ Same G H') ⟨⟨0, Nat.le_refl _, upd_same⟩, same_upd hD⟩ (fun _ _ _ _ => trivial) ?_ ?_
    · rintro i x H2 H3 hi ⟨⟨n, hn, p1⟩, p2⟩ ⟨rfl, ch, ec, rfl⟩
      have hi3 : i < 3 := hi
      refine ⟨rfl, ?_⟩
      refine ⟨_, rfl, a, _, dx, _, _, rfl, p2 _ _ ea, cls_Bag T, na_Bag_words T, flds_words _ _, ?_⟩
      refine ⟨t, rfl, ⟨_, .inl (.inr ⟨o, p2 _ _ e1⟩)⟩, fun D2 hD2 => ?_⟩
      refine lc_it (walk_tup (xs := ps.map V.ref)) (fun j H' => H' D2 = some (.lst (((L.take j).map fun p => decide (ch ∈ p.1.cps.toList)).map V.bl)) ∧ Same H3 H') ⟨upd_same, same_upd hD2⟩ (fun j H' _ hP => .inl (.inr ⟨o, hP.2 _ _ (p2 _ _ e1)⟩)) ?_ ?_
      · rintro j x H4 H5 hj ⟨r1, r2⟩ ⟨rfl, e⟩
        rw [List.length_map, e2] at hj
        have ep : L[j]? = some L[j] := List.getElem?_eq_getElem hj
        generalize L[j] = p at ep
        obtain ⟨b, h1, h2⟩ := e3 j p ep
        rw [List.getElem?_map, h1] at e
        have e5 : V.ref b = x := Option.some.inj e
        subst e5
        refine ⟨b, _, rfl, .inl (.inl (r2 _ _ (p2 _ _ h2))), rfl, ?_⟩
        refine ⟨_, _, rfl, _, _, rfl, rfl, rfl, ?_⟩
        refine ⟨_, rfl, _, rfl, ch, p.1, rfl, rfl, _, r1, ?_, ?_, fun y u z => ?_⟩
        · rw [List.length_map, List.length_map, List.length_take]
          omega
        · rw [upd_same, List.take_add_one, ep, List.map_append, List.map_append]
          rfl
        · rw [upd_ne (ne_of_none z hD2)]
          exact r2 y u z
      rintro H4 ⟨r1, r2⟩
      rw [List.length_map, e2, List.take_length] at r1
      refine ⟨D2, _, rfl, .inl (.inl r1), _, rfl, ?_⟩
      refine ite2 (fun hz => ?_) (fun hz => ?_)
      · obtain ⟨b, hb1, hb2⟩ := List.any_eq_true.mp hz
        obtain ⟨p, hp, rfl⟩ := List.mem_map.mp hb1
        have hc := hcov p hp ch (of_decide_eq_true hb2)
        obtain ⟨en, hen, een⟩ := List.mem_map.mp hc
        have hval := kvr_val hR.nd hen
        rw [een] at hval
        refine ⟨_, rfl, _, rfl, d, _, rfl, DGet.k (k := Sum.inr (⟨#[ch]⟩ : Str)) (r2 _ _ (p2 _ _ hd)), ?_⟩
        rw [hval]
        refine ⟨_, r2 _ _ p1, ?_, ⟨n + 1, by omega, ?_⟩, fun y u z => ?_⟩
        · rw [List.length_map, List.length_replicate]
          omega
        · rw [upd_same, List.replicate_succ', List.map_append]
          rfl
        · rw [upd_ne (ne_of_none z hD)]
          exact r2 _ _ (p2 y u z)
      · exact ⟨⟨n, by omega, r2 _ _ p1⟩, p2.trans r2⟩
    · rintro H2 ⟨⟨n, hn, p1⟩, p2⟩
      refine ⟨D, List.replicate n true, rfl, .inl (.inl p1), ?_⟩
      rw [eT]
      exact q _ p2
end
end Fp

set_option Elab.async false
set_option linter.all false
set_option maxRecDepth 100000
set_option maxHeartbeats 4000000
namespace Fp
open PySem PySem.Spec PyProof.Rows L2
/-! ### dicts from words to tables: what stands at a word, sums over all -/
abbrev Bd : Type := List (Str × Addr × Tb)
def kvb (bs : Bd) : List (Key × V) := bs.map fun e => ((Sum.inr e.1 : Key), V.ref e.2.1)
def putB (bs : Bd) (x : Str) (a : Addr × Tb) : Bd := if (bs.any fun e => decide (e.1 = x)) then bs.map (fun e => if e.1 = x then (e.1, a) else e) else bs ++ [(x, a)]
def dropB (bs : Bd) (x : Str) : Bd := bs.filter fun e => decide (e.1 ≠ x)
def getB (bs : Bd) (x : Str) : Option (Addr × Tb) := (bs.find? fun e => decide (e.1 = x)).map (·.2)
def sumB (g : Str → Tb → Int) (bs : Bd) : Int := (bs.map fun e => g e.1 e.2.2).sum
theorem kvb_len (bs : Bd) : (kvb bs).length = bs.length := List.length_map _
theorem kvb_val (bs : Bd) (x : Str) : valV (kvb bs) (Sum.inr x : Key) = (getB bs x).map fun a => V.ref a.1 := by
  unfold getB
  induction bs with
  | nil => rfl
  | cons e r ih =>
    by_cases h : e.1 = x
    · rw [List.find?_cons_of_pos (by simpa using h)]
      exact valV_pos (p := ((Sum.inr e.1 : Key), V.ref e.2.1)) (by rw [h])
    · rw [List.find?_cons_of_neg (by simpa using h)]
      exact (valV_neg (p := ((Sum.inr e.1 : Key), V.ref e.2.1)) (fun z => h (Sum.inr.inj z))).trans ih
theorem putB_kvb (bs : Bd) (x : Str) (a : Addr × Tb) : putK (kvb bs) (Sum.inr x : Key) (.ref a.1) = kvb (putB bs x a) := by
  have ea : ((kvb bs).any fun q => decide (q.1 = (Sum.inr x : Key))) = bs.any fun e => decide (e.1 = x) := by
    unfold kvb
    rw [List.any_map]
    congr 1
    funext p
    by_cases e : p.1 = x
    · simp [e]
    · simp [e]
  unfold putK putB
  rw [ea]
  cases bs.any fun e => decide (e.1 = x) with
  | true =>
    rw [if_pos rfl, if_pos rfl]
    unfold kvb
    rw [List.map_map, List.map_map]
    apply List.map_congr_left
    intro p _
    by_cases e : p.1 = x
    · simp [e]
    · simp [e]
  | false =>
    rw [if_neg Bool.false_ne_true, if_neg Bool.false_ne_true]
    unfold kvb
    rw [List.map_append]
    rfl
theorem dropB_kvb (bs : Bd) (x : Str) : dropK (kvb bs) (Sum.inr x : Key) = kvb (dropB bs x) := by
  unfold dropK dropB kvb
  rw [List.filter_map]
  congr 1
  apply List.filter_congr
  intro p _
  by_cases e : p.1 = x
  · simp [e]
  · simp [e]
theorem getB_mem {bs : Bd} {x : Str} {a : Addr × Tb} (h : getB bs x = some a) : (x, a) ∈ bs := by
  unfold getB at h
  cases e : bs.find? fun e => decide (e.1 = x) with
  | none => rw [e] at h; cases h
  | some p =>
    rw [e] at h
    have h1 := List.mem_of_find?_eq_some e
    have h2 := List.find?_some e
    have h3 : p.1 = x := of_decide_eq_true h2
    have h4 : p.2 = a := Option.some.inj h
    rw [← h3, ← h4]
    exact h1
theorem getB_none {bs : Bd} {x : Str} (h : getB bs x = none) : ∀ e ∈ bs, e.1 ≠ x := by
  unfold getB at h
  cases e : bs.find? fun e => decide (e.1 = x) with
  | none =>
    intro q hq z
    have := List.find?_eq_none.mp e q hq
    exact this (decide_eq_true z)
  | some p => rw [e] at h; cases h
theorem getB_of {bs : Bd} (hn : (bs.map (·.1)).Nodup) {x : Str} {a : Addr × Tb} (h : (x, a) ∈ bs) : getB bs x = some a := by
  unfold getB
  induction bs with
  | nil => cases h
  | cons e r ih =>
    obtain ⟨h1, h2⟩ := List.nodup_cons.mp (show (e.1 :: r.map (·.1)).Nodup from hn)
    rcases List.mem_cons.mp h with h | h
    · subst h
      rw [List.find?_cons_of_pos (by simp)]
      rfl
    · have hne : e.1 ≠ x := fun z => h1 (z ▸ List.mem_map.mpr ⟨(x, a), h, rfl⟩)
      rw [List.find?_cons_of_neg (by simpa using hne)]
      exact ih h2 h
theorem mem_putB {bs : Bd} {x : Str} {a : Addr × Tb} {e : Str × Addr × Tb} (h : e ∈ putB bs x a) : e = (x, a) ∨ (e ∈ bs ∧ e.1 ≠ x) := by
  unfold putB at h
  cases q : bs.any fun e => decide (e.1 = x) with
  | true =>
    rw [q, if_pos rfl] at h
    obtain ⟨p, hp, e2⟩ := List.mem_map.mp h
    by_cases e3 : p.1 = x
    · rw [if_pos e3, e3] at e2
      exact .inl e2.symm
    · rw [if_neg e3] at e2
      exact .inr (e2 ▸ ⟨hp, e3⟩)
  | false =>
    rw [q, if_neg Bool.false_ne_true] at h
    rcases List.mem_append.mp h with h | h
    · refine .inr ⟨h, fun z => ?_⟩
      have : (bs.any fun e => decide (e.1 = x)) = true := List.any_eq_true.mpr ⟨e, h, decide_eq_true z⟩
      rw [q] at this
      cases this
    · exact .inl (by simpa using h)
theorem mem_dropB {bs : Bd} {x : Str} {e : Str × Addr × Tb} (h : e ∈ dropB bs x) : e ∈ bs ∧ e.1 ≠ x := by
  obtain ⟨h1, h2⟩ := List.mem_filter.mp h
  exact ⟨h1, of_decide_eq_true h2⟩
theorem putB_keys {bs : Bd} {x : Str} {a : Addr × Tb} : (putB bs x a).map (·.1) = if (bs.any fun e => decide (e.1 = x)) then bs.map (·.1) else bs.map (·.1) ++ [x] := by
  unfold putB
  cases bs.any fun e => decide (e.1 = x) with
  | true =>
    rw [if_pos rfl, if_pos rfl, List.map_map]
    apply List.map_congr_left
    intro p _
    by_cases e : p.1 = x
    · simp [e]
    · simp [e]
  | false =>
    rw [if_neg Bool.false_ne_true, if_neg Bool.false_ne_true, List.map_append]
    rfl
theorem putB_nd {bs : Bd} (h : (bs.map (·.1)).Nodup) (x : Str) (a : Addr × Tb) : ((putB bs x a).map (·.1)).Nodup := by
  rw [putB_keys]
  cases e : bs.any fun e => decide (e.1 = x) with
  | true => exact h
  | false =>
    rw [if_neg Bool.false_ne_true, List.nodup_append]
    refine ⟨h, by simp, fun b hb y hy => ?_⟩
    have : y = x := by simpa using hy
    subst this
    rintro rfl
    obtain ⟨q, hq, e2⟩ := List.mem_map.mp hb
    have : (bs.any fun e => decide (e.1 = b)) = true := List.any_eq_true.mpr ⟨q, hq, decide_eq_true e2⟩
    rw [e] at this
    cases this
theorem dropB_nd {bs : Bd} (h : (bs.map (·.1)).Nodup) (x : Str) : ((dropB bs x).map (·.1)).Nodup := (List.Sublist.map _ List.filter_sublist).nodup h
theorem putB_len (bs : Bd) (x : Str) (a : Addr × Tb) : (putB bs x a).length ≤ bs.length + 1 := by
  unfold putB
  split
  · rw [List.length_map]
    omega
  · rw [List.length_append]
    simp
theorem sumB_cons (g : Str → Tb → Int) (e : Str × Addr × Tb) (r : Bd) : sumB g (e :: r) = g e.1 e.2.2 + sumB g r := by
  unfold sumB
  rw [List.map_cons, List.sum_cons]
theorem sumB_app (g : Str → Tb → Int) (a b : Bd) : sumB g (a ++ b) = sumB g a + sumB g b := by
  induction a with
  | nil =>
    rw [List.nil_append]
    show _ = 0 + _
    rw [Int.zero_add]
  | cons e r ih => rw [List.cons_append, sumB_cons, sumB_cons, ih, Int.add_assoc]
/-- the table at a word, nothing if there is none -/
def oldB (bs : Bd) (x : Str) : Tb := ((getB bs x).map (·.2)).getD []
theorem sumB_put (g : Str → Tb → Int) (g0 : ∀ x, g x [] = 0) {bs : Bd} (h : (bs.map (·.1)).Nodup) (x : Str) (a : Addr × Tb) : sumB g (putB bs x a) = sumB g bs - g x (oldB bs x) + g x a.2 := by
  unfold putB oldB
  cases q : bs.any fun e => decide (e.1 = x) with
  | false =>
    have hn : getB bs x = none := by
      cases e : getB bs x with
      | none => rfl
      | some b =>
        have : (bs.any fun e => decide (e.1 = x)) = true := List.any_eq_true.mpr ⟨_, getB_mem e, decide_eq_true rfl⟩
        rw [q] at this
        cases this
    rw [if_neg Bool.false_ne_true, sumB_app, hn]
    show sumB g bs + (g x a.2 + 0) = sumB g bs - g x [] + g x a.2
    rw [g0]
    omega
  | true =>
    rw [if_pos rfl]
    have key : ∀ bs : Bd, (bs.map (·.1)).Nodup → (bs.any fun e => decide (e.1 = x)) = true → sumB g (bs.map fun e => if e.1 = x then (e.1, a) else e) = sumB g bs - g x (((getB bs x).map (·.2)).getD []) + g x a.2 := by
      intro bs
      induction bs with
      | nil => intro _ qq; cases qq
      | cons e r ih =>
        intro hn qq
        obtain ⟨h1, h2⟩ := List.nodup_cons.mp (show (e.1 :: r.map (·.1)).Nodup from hn)
        rw [List.map_cons, sumB_cons, sumB_cons]
        by_cases z : e.1 = x
        · have er : r.map (fun e => if e.1 = x then (e.1, a) else e) = r := by
            conv => rhs; rw [← List.map_id r]
            apply List.map_congr_left
            intro p hp
            rw [if_neg (fun y => h1 (by rw [z, ← y]; exact List.mem_map.mpr ⟨p, hp, rfl⟩))]
            rfl
          have eg : getB (e :: r) x = some e.2 := by
            unfold getB
            rw [List.find?_cons_of_pos (by simpa using z)]
            rfl
          rw [er, if_pos z, eg]
          show g e.1 a.2 + sumB g r = g e.1 e.2.2 + sumB g r - g x e.2.2 + g x a.2
          rw [z]
          omega
        · have eg : getB (e :: r) x = getB r x := by
            unfold getB
            rw [List.find?_cons_of_neg (by simpa using z)]
          rw [if_neg z, eg, ih h2 (by simpa [z] using qq)]
          omega
    exact key bs h q
theorem sumB_drop (g : Str → Tb → Int) (g0 : ∀ x, g x [] = 0) {bs : Bd} (h : (bs.map (·.1)).Nodup) (x : Str) : sumB g (dropB bs x) = sumB g bs - g x (oldB bs x) := by
  unfold oldB dropB
  induction bs with
  | nil =>
    show (0 : Int) = 0 - g x []
    rw [g0]
    rfl
  | cons e r ih =>
    obtain ⟨h1, h2⟩ := List.nodup_cons.mp (show (e.1 :: r.map (·.1)).Nodup from h)
    by_cases z : e.1 = x
    · have er : r.filter (fun e => decide (e.1 ≠ x)) = r := List.filter_eq_self.mpr fun p hp => decide_eq_true fun y => h1 (by rw [z, ← y]; exact List.mem_map.mpr ⟨p, hp, rfl⟩)
      have eg : getB (e :: r) x = some e.2 := by
        unfold getB
        rw [List.find?_cons_of_pos (by simpa using z)]
        rfl
      rw [List.filter_cons_of_neg (by simpa using z), er, eg, sumB_cons]
      show sumB g r = g e.1 e.2.2 + sumB g r - g x e.2.2
      rw [z]
      omega
    · have eg : getB (e :: r) x = getB r x := by
        unfold getB
        rw [List.find?_cons_of_neg (by simpa using z)]
      rw [List.filter_cons_of_pos (by simpa using z), sumB_cons, sumB_cons, ih h2, eg]
      omega
/-! ### the sum that replacing keeps -/
def valB (f : Nat → Tb) (bs : Bd) : Tb := bs.flatMap fun e => prs (evW f e.1) e.2.2
theorem valB_tot (f : Nat → Tb) (bs : Bd) (y : Str) : tot (valB f bs) y = sumB (fun w t => tot (prs (evW f w) t) y) bs := by
  unfold valB
  induction bs with
  | nil => rfl
  | cons e r ih => rw [List.flatMap_cons, tot_app, ih, sumB_cons]
/-- one word taken apart: its table, behind that of its last letter, goes to the word without it -/
theorem valB_step {c : Int} (f : Nat → Tb) {bs : Bd} (hn : (bs.map (·.1)).Nodup) {v : Str} {n : Nat} {a b : Addr} {t new : Tb} (hw : (v ++ ⟨#[n]⟩, a, t) ∈ bs) (hne : v ++ ⟨#[n]⟩ ≠ v) (hk : Lk c new (oldB bs v ++ prs (f n) t)) :
    Lk c (valB f (dropB (putB bs v (b, new)) (v ++ ⟨#[n]⟩))) (valB f bs) := fun y => by
  have g0 : ∀ x : Str, (fun (w : Str) (t : Tb) => tot (prs (evW f w) t) y) x [] = 0 := fun x => by
    show tot (prs _ []) y = 0
    rw [prs_nil_r]
    rfl
  have hw' : (v ++ ⟨#[n]⟩, a, t) ∈ putB bs v (b, new) := by
    unfold putB
    cases bs.any fun e => decide (e.1 = v) with
    | true =>
      rw [if_pos rfl]
      exact List.mem_map.mpr ⟨_, hw, by rw [if_neg hne]⟩
    | false =>
      rw [if_neg Bool.false_ne_true]
      exact List.mem_append_left _ hw
  have hod : oldB (putB bs v (b, new)) (v ++ ⟨#[n]⟩) = t := by
    unfold oldB
    rw [getB_of (putB_nd hn v (b, new)) hw']
    rfl
  rw [valB_tot, valB_tot, sumB_drop _ g0 (putB_nd hn v (b, new)), sumB_put _ g0 hn, hod]
  show (sumB _ bs - tot (prs (evW f v) (oldB bs v)) y + tot (prs (evW f v) new) y - tot (prs (evW f (v ++ ⟨#[n]⟩)) t) y) % c = _
  have e1 : evW f (v ++ ⟨#[n]⟩) = prs (evW f v) (f n) := by
    rw [evW_app]
    congr 1
    exact prs_one_r _
  have e2 := (Lk.prs_r (evW f v) hk) y
  rw [prs_app_r, tot_app, ← prs_assoc] at e2
  rw [e1]
  have e3 : ∀ S A B C : Int, B % c = (A + C) % c → (S - A + B - C) % c = S % c := fun S A B C h => by
    have : S - A + B - C = S + (B - (A + C)) := by omega
    rw [this, ← Int.add_emod_right]
    have h2 : (B - (A + C)) % c = 0 := Int.emod_eq_emod_iff_emod_sub_eq_zero.mp h
    rw [Int.add_emod_right, Int.add_emod, h2, Int.add_zero, Int.emod_emod_of_dvd _ (Int.dvd_refl c)]
  exact e3 _ _ _ _ e2
end Fp

set_option Elab.async false
set_option linter.all false
set_option maxRecDepth 100000
set_option maxHeartbeats 2000000
/-! y = {k: v for ..}, y a name of the def -/
namespace L2
open PySem PySem.Spec PyProof.Rows
section
variable {X : Cx}
theorem sw_dict {ke ve : Expr} {cs : List Comprehension} {sco : Scope} {q qy : Pos} {nm : Str} {ln : Nat} {en : Env} (h1 : en.scope.kind = .function) (h2 : en.scope.names.lookup nm = some .local) (h3 : (qy.line == q.line) = true)
    (h4 : (sco.names.any fun (a, b) => a == nm && (b == .local || b == .cell)) = false) : swapsWith (.DictComp ke ve cs sco q) (some (.Name nm qy)) ln en = pure true := by
  have f1 : en.kindOf nm = some .local := h2
  have f2 : en.blockKind = .function := by unfold Env.blockKind; rw [h1] <;> rfl
  unfold swapsWith
  simp only [f1, f2, h4, h3, Expr.pos]
  rfl
theorem ps_setDc {j : Nat} {nm : Str} {qy : Pos} {ke ve tgt itr : Expr} {conds : List Expr} {sco : Scope} {mine : List (Str × Nat)} {q sq : Pos} {ti : TI} {tg : TG} {tc : TT} {t1 t2 : TE} (calm : X.calm = true) (nN : X.N.Nodup) (at_ : X.N[j]? = some nm) (loc : X.env.scope.names.lookup nm = some .local)
    (sw : swapsWith (.DictComp ke ve [⟨tgt, itr, conds, 0⟩] sco q) (some (.Name nm qy)) sq.line X.env = pure true) (pi : PI X tgt itr ti) (bo : BlkOk X.N X.env.scope sco mine)
    (g1 : ∀ (s : Shared) (H : Hp) (C : Addr) (cl : List (Str × Addr)) (fp : List Addr), PG (X.blk s H sco (compEnvC sco cl C X.env) fp) tgt tg) (g2 : ∀ (s : Shared) (H : Hp) (C : Addr) (cl : List (Str × Addr)) (fp : List Addr), PTs (X.blk s H sco (compEnvC sco cl C X.env) fp) conds tc)
    (g3 : ∀ (s : Shared) (H : Hp) (C : Addr) (cl : List (Str × Addr)) (fp : List Addr), PE (X.blk s H sco (compEnvC sco cl C X.env) fp) ke t1) (g4 : ∀ (s : Shared) (H : Hp) (C : Addr) (cl : List (Str × Addr)) (fp : List Addr), PE (X.blk s H sco (compEnvC sco cl C X.env) fp) ve t2)
    (fo : ∀ y, foldedSetIterable itr X.env y = pure y := by intro _; rfl) :
    PS X (.Assign [.Name nm qy] (.DictComp ke ve [⟨tgt, itr, conds, 0⟩] sco q) sq) (tAsg (tDc ti tg tc t1 t2 (mine.map (·.2))) (gName j)) := by
  constructor
  intro pn st sl hp ends inv rd
  rw [exec_Assign_Name_used _ _ _ _ sw]
  refine wpAny_bind (wpAny_standAt ?_)
  refine wpAny_bind ?_
  show wpAny _ X.A (do let _ ← comprehension (.DictComp ke ve [⟨tgt, itr, conds, 0⟩] sco q) sco X.env (firstIterPos [⟨tgt, itr, conds, 0⟩] q) newDict false (eval itr X.env) (some (assign (.Name nm qy) X.env))) _ _ st
  have rd' : tDc ti tg tc t1 t2 (mine.map (·.2)) sl hp (fun x H1 => gName j x sl H1 ends.nx) := rd
  refine wpAny_bind (thn (dc_core (Qf := fun _ st' => SP X pn ends .next st') calm nN inv pi bo g1 g2 g3 g4 fo rd' fun D C st1 mm hp1 inv1 q1 ns fr => ?_) fun _ st' hq => ?_)
  · show wpAny _ _ (assign (.Name nm qy) X.env (.ref D)) _ _ _
    refine wpAny_assign_Name (store_ok2 (v := V.ref D) inv1 nN at_ (.inl loc) rfl (fun st2 inv2 ⟨b, sb, hb⟩ => ?_) (.inr loc))
    obtain ⟨a0, a1, a2, a3, a4, a5⟩ := fr
    have cb : C ≠ b := by
      rcases hb with z | z
      · rw [z]
        exact a1
      · exact fun e => a4 nm b z e.symm
    refine ⟨mm, ns.sameBut sb cb, fun h3 sb3 => ⟨_, hp1, inv2.turned (t' := st2.toks) (fun b o nb e => (sb3.2 b nb).trans e) a0 a1 a3 a4 a5, q1⟩⟩
  · exact wpAny_pure (wpAny_pure hq)
end
end L2

set_option Elab.async false
set_option linter.all false
set_option maxRecDepth 100000
set_option maxHeartbeats 4000000
namespace Fp
open PySem PySem.Spec PyProof.Rows L2
/-! ### one letter after another, from the longest words down -/
def wt (w : Str) (t : Tb) : Int := (t.length : Int) * 3 ^ w.length
theorem wt_nil (w : Str) : wt w [] = 0 := Int.zero_mul _
theorem wt_nn (w : Str) (t : Tb) : 0 ≤ wt w t := Int.mul_nonneg (Int.natCast_nonneg _) (Int.pow_nonneg (by decide))
theorem wt_le (w : Str) (t : Tb) : (t.length : Int) ≤ wt w t := by
  have h : (1 : Int) ≤ 3 ^ w.length := by
    have : (0 : Int) < 3 ^ w.length := Int.pow_pos (by decide)
    omega
  have := Int.mul_le_mul_of_nonneg_left h (Int.natCast_nonneg t.length)
  rw [Int.mul_one] at this
  exact this
theorem sumB_nn {g : Str → Tb → Int} (h : ∀ w t, 0 ≤ g w t) (bs : Bd) : 0 ≤ sumB g bs := by
  induction bs with
  | nil => exact Int.le_refl _
  | cons e r ih =>
    rw [sumB_cons]
    have := h e.1 e.2.2
    omega
theorem sumB_mem {g : Str → Tb → Int} (h : ∀ w t, 0 ≤ g w t) {bs : Bd} {e : Str × Addr × Tb} (he : e ∈ bs) : g e.1 e.2.2 ≤ sumB g bs := by
  induction bs with
  | nil => cases he
  | cons x r ih =>
    rw [sumB_cons]
    have h1 := sumB_nn h r
    have h2 := h x.1 x.2.2
    rcases List.mem_cons.mp he with rfl | he
    · omega
    · have := ih he
      omega
theorem len_one (v : Str) (n : Nat) : (v ++ ⟨#[n]⟩).length = v.length + 1 := len_app v ⟨#[n]⟩
theorem one_ne (v : Str) (n : Nat) : v ++ ⟨#[n]⟩ ≠ v := fun z => by
  have := congrArg (fun s : Str => s.length) z
  simp only [len_one] at this
  omega
theorem last_ex {w : Str} (h : 0 < w.length) : ∃ v n, w = v ++ ⟨#[n]⟩ := by
  have hne : w.cps.toList ≠ [] := fun z => by
    have : w.cps.toList.length = 0 := by rw [z]; rfl
    rw [Array.length_toList] at this
    have h' : 0 < w.cps.size := h
    omega
  refine ⟨⟨w.cps.toList.dropLast.toArray⟩, w.cps.toList.getLast hne, PySem.W.str_of_cps ?_⟩
  rw [cps_app]
  show w.cps.toList = w.cps.toList.dropLast ++ [w.cps.toList.getLast hne]
  exact (List.dropLast_concat_getLast hne).symm
theorem cut_last (v : Str) (n : Nat) : cutS (v ++ ⟨#[n]⟩) none (some (-1)) = v := by
  apply PySem.W.str_of_cps
  show ((v ++ (⟨#[n]⟩ : Str)).cps.toList.drop 0).take (HT.sIx (v ++ (⟨#[n]⟩ : Str)).length (v ++ (⟨#[n]⟩ : Str)).length (some (-1)) - 0) = v.cps.toList
  have e : HT.sIx (v ++ (⟨#[n]⟩ : Str)).length (v ++ (⟨#[n]⟩ : Str)).length (some (-1)) = v.cps.toList.length := by
    show (if (-1 : Int) < 0 then ((-1 : Int) + ((v ++ (⟨#[n]⟩ : Str)).length : Int)).toNat else min (-1 : Int).toNat (v ++ (⟨#[n]⟩ : Str)).length) = _
    rw [if_pos (by decide), len_one]
    have : v.length = v.cps.toList.length := by rw [Array.length_toList]; rfl
    omega
  rw [e, cps_app, List.drop_zero, Nat.sub_zero]
  exact List.take_left
theorem xyz_front {u v : Str} (h : xyz (u ++ v)) : xyz u := fun c hc => h c (by rw [cps_app]; exact List.mem_append_left _ hc)
structure RepS (c : Int) (N K : Nat) (fc : Nat → Tb) (G : Tb) (cov : Nat → Prop) (bs : Bd) : Prop where
  nd : (bs.map (·.1)).Nodup
  xy : ∀ x ∈ bs, xyz x.1 ∧ x.1.length ≤ N ∧ VT c (2 * (N - x.1.length)) K x.2.2 ∧ ∀ n ∈ x.1.cps.toList, cov n
  g : Lk c (valB fc bs) G
  w : sumB wt bs ≤ (K : Int)
section
variable {c : Int} {N K : Nat} {fc : Nat → Tb} {G : Tb} {cov : Nat → Prop} {bs : Bd}
theorem RepS.old (h : RepS c N K fc G cov bs) (v : Str) : VT c (2 * (N - v.length)) K (oldB bs v) := by
  unfold oldB
  cases e : getB bs v with
  | none => exact (vt_nil c _).mono (Nat.le_refl _) (Nat.zero_le _)
  | some a => exact (h.xy _ (getB_mem e)).2.2.1
theorem RepS.step (h : RepS c N K fc G cov bs) (hc : 0 < c) {v : Str} {n : Nat} {a b : Addr} {t : Tb} (hw : (v ++ ⟨#[n]⟩, a, t) ∈ bs) (hf : VT c 2 3 (fc n)) :
    VT c (2 * (N - v.length)) (3 * K) (tidyM c (multT (fc n) t)) ∧ RepS c N K fc G cov (dropB (putB bs v (b, tidyM c (addT (scl 1 (tidyM c (multT (fc n) t))) (oldB bs v)))) (v ++ ⟨#[n]⟩)) := by
  obtain ⟨x1, x2, x3, x4⟩ := h.xy _ hw
  rw [len_one] at x2 x3
  obtain ⟨m1, m2⟩ := vt_mul hc hf x3
  have m1' : VT c (2 * (N - v.length)) (3 * K) (tidyM c (multT (fc n) t)) := m1.mono (by omega) (Nat.le_refl _)
  have mlen : (tidyM c (multT (fc n) t)).length ≤ 3 * t.length := (vt_mul hc hf (show VT c (2 * (N - (v.length + 1))) t.length t from ⟨x3.nd, x3.nu, x3.wd, Nat.le_refl _⟩)).1.ln
  have ho := h.old v
  obtain ⟨s1, s2⟩ := vt_sum (f := 1) hc ho m1'
  have slen : (tidyM c (addT (scl 1 (tidyM c (multT (fc n) t))) (oldB bs v))).length ≤ (oldB bs v).length + 3 * t.length :=
    Nat.le_trans (vt_sum (f := 1) hc (show VT c (2 * (N - v.length)) (oldB bs v).length (oldB bs v) from ⟨ho.nd, ho.nu, ho.wd, Nat.le_refl _⟩) (show VT c (2 * (N - v.length)) (tidyM c (multT (fc n) t)).length _ from ⟨m1'.nd, m1'.nu, m1'.wd, Nat.le_refl _⟩)).1.ln (by omega)
  refine ⟨m1', ?_⟩
  generalize hnew : tidyM c (addT (scl 1 (tidyM c (multT (fc n) t))) (oldB bs v)) = new at s1 s2 slen
  rw [scl_one] at s2
  have hk : Lk c new (oldB bs v ++ prs (fc n) t) := s2.trans ((Lk.refl _ _).app m2)
  have hnd := putB_nd h.nd v (b, new)
  have hw' : (v ++ ⟨#[n]⟩, a, t) ∈ putB bs v (b, new) := by
    unfold putB
    cases bs.any fun e => decide (e.1 = v) with
    | true =>
      rw [if_pos rfl]
      exact List.mem_map.mpr ⟨_, hw, by rw [if_neg (one_ne v n)]⟩
    | false =>
      rw [if_neg Bool.false_ne_true]
      exact List.mem_append_left _ hw
  have hod : oldB (putB bs v (b, new)) (v ++ ⟨#[n]⟩) = t := by
    unfold oldB
    rw [getB_of hnd hw']
    rfl
  have hW : sumB wt (dropB (putB bs v (b, new)) (v ++ ⟨#[n]⟩)) ≤ (K : Int) := by
    rw [sumB_drop wt wt_nil hnd, sumB_put wt wt_nil h.nd, hod]
    have e1 : wt (v ++ ⟨#[n]⟩) t = 3 * wt v t := by
      unfold wt
      rw [len_one, Int.pow_succ, ← Int.mul_assoc, Int.mul_comm]
    have e2 : wt v new ≤ wt v (oldB bs v) + 3 * wt v t := by
      unfold wt
      have h3 : (0 : Int) ≤ 3 ^ v.length := Int.pow_nonneg (by decide)
      have h4 : (new.length : Int) ≤ (oldB bs v).length + 3 * t.length := by exact_mod_cast slen
      have h5 := Int.mul_le_mul_of_nonneg_right h4 h3
      rw [Int.add_mul, Int.mul_assoc] at h5
      exact h5
    have := h.w
    show sumB wt bs - wt v (oldB bs v) + wt v new - wt (v ++ ⟨#[n]⟩) t ≤ (K : Int)
    omega
  refine ⟨dropB_nd hnd _, fun x hx => ?_, (valB_step fc h.nd hw (one_ne v n) hk).trans h.g, hW⟩
  obtain ⟨h1, h2⟩ := mem_dropB hx
  rcases mem_putB h1 with rfl | ⟨h3, h4⟩
  · refine ⟨xyz_front x1, (by show v.length ≤ N; omega), ⟨s1.nd, s1.nu, fun p hp => ⟨(s1.wd p hp).1, Nat.le_trans (s1.wd p hp).2 (by simp)⟩, ?_⟩, fun m hm => x4 m (by rw [cps_app]; exact List.mem_append_left _ hm)⟩
    have e3 := sumB_mem wt_nn hx
    have e4 := wt_le v new
    have e5 : wt v new ≤ (K : Int) := Int.le_trans e3 hW
    show new.length ≤ K
    omega
  · exact h.xy x h3
end
end Fp

set_option Elab.async false
set_option linter.all false
set_option maxRecDepth 100000
set_option maxHeartbeats 8000000
namespace Fp
open PySem PySem.Spec PyProof.Rows L2
theorem leR_len {a b : Str} (h : leR a b = true) : b.length ≤ a.length := by
  have e1 : PySem.W.dataLt (rk b) (rk a) = false := by
    have : (!PySem.W.dataLt (rk b) (rk a)) = true := h
    simpa using this
  by_cases hl : b.length ≤ a.length
  · exact hl
  · exfalso
    have hlt : -(b.length : Int) < -(a.length : Int) := by omega
    have hne : ¬ (-(b.length : Int) = -(a.length : Int)) := by omega
    have hv : PyData.eqv (.int (-(b.length : Int))) (.int (-(a.length : Int))) = false := by
      simp only [PyData.eqv]
      simpa using hne
    have : PySem.W.dataLt (rk b) (rk a) = true := by
      unfold rk
      rw [PySem.W.dataLt_pair rfl rfl, hv, if_neg Bool.false_ne_true, PySem.W.dataLt_int]
      exact decide_eq_true hlt
    rw [this] at e1
    cases e1
theorem BagAt.butD {K : PySem.W.Frag} {d : Addr} {H H' : Hp} {b : Addr} {c : Int} {L : Tb} {kvs : List (Key × V)} (h : BagAt K H b c L) (hd : H d = some (.dK kvs)) (k : But d H H') : BagAt K H' b c L := by
  obtain ⟨dx, t, f1, f2⟩ := h
  obtain ⟨ps, o, g1, g2⟩ := id f2
  exact ⟨dx, t, k _ _ f1 (ne_of f1 hd (by intro z; cases z)), f2.but k (ne_of g1 hd (by intro z; cases z)) fun ys => by rw [hd]; intro z; cases z⟩
theorem kvr_put {ts : List (Nat × Addr)} {n : Nat} {a : Addr} (h : n ∉ ts.map (·.1)) : putK (kvr ts) (Sum.inr (⟨#[n]⟩ : Str) : Key) (.ref a) = kvr (ts ++ [(n, a)]) := by
  have : ((kvr ts).any fun q => decide (q.1 = (Sum.inr (⟨#[n]⟩ : Str) : Key))) = false := by
    rw [Bool.eq_false_iff]
    intro z
    obtain ⟨q, hq, e⟩ := List.any_eq_true.mp z
    obtain ⟨p, hp, rfl⟩ := List.mem_map.mp hq
    have := one_inj (Sum.inr.inj (of_decide_eq_true e))
    exact h (this ▸ List.mem_map.mpr ⟨p, hp, rfl⟩)
  unfold putK
  rw [this, if_neg Bool.false_ne_true]
  unfold kvr
  rw [List.map_append]
  rfl
theorem kvb_at {bs : Bd} {i : Nat} {k : Key} {v : V} (e : (kvb bs)[i]? = some (k, v)) : ∃ p, bs[i]? = some p ∧ k = Sum.inr p.1 ∧ v = .ref p.2.1 := by
  unfold kvb at e
  rw [List.getElem?_map] at e
  cases q : bs[i]? with
  | none => rw [q] at e; cases e
  | some p =>
    rw [q] at e
    have := Option.some.inj e
    injection this with h1 h2
    exact ⟨p, rfl, h1.symm, h2.symm⟩
theorem putB_new {bs : Bd} {x : Str} {a : Addr × Tb} (h : x ∉ bs.map (·.1)) : putB bs x a = bs ++ [(x, a)] := by
  have : (bs.any fun e => decide (e.1 = x)) = false := by
    rw [Bool.eq_false_iff]
    intro z
    obtain ⟨q, hq, e⟩ := List.any_eq_true.mp z
    exact h (List.mem_map.mpr ⟨q, hq, of_decide_eq_true e⟩)
  unfold putB
  rw [this, if_neg Bool.false_ne_true]
def unitT (n : Int) : Tb := [("", n)]
theorem prs_unit (n : Int) (l : Tb) : prs l (unitT n) = scl n l := by
  induction l with
  | nil => rfl
  | cons p r ih =>
    rw [prs_cons, ih]
    show ((p.1 ++ ("" : Str), p.2 * n) : Str × Int) :: scl n r = _
    rw [str_nil_r, Int.mul_comm]
    rfl
theorem vt_num {c n : Int} (m : Nat) (h1 : 1 ≤ n) (h2 : n < c) : VT c m 1 (unitT n) := ⟨by show [(("" : Str))].Nodup; simp, fun q hq => by
    have : q = ((("" : Str), n) : Str × Int) := by simpa [unitT] using hq
    rw [this]
    exact ⟨h1, h2⟩, fun q hq => by
    have : q = ((("" : Str), n) : Str × Int) := by simpa [unitT] using hq
    rw [this]
    have hx : xyz ("" : Str) ∧ ("" : Str).length ≤ 0 := by decide +kernel
    exact ⟨hx.1, Nat.le_trans hx.2 (Nat.zero_le _)⟩, Nat.le_refl _⟩
structure BdAt (H0 H : Hp) (B : Addr) (bs : Bd) : Prop where
  s : Same H0 H
  b : H B = some (.dK (kvb bs))
  e : ∀ x ∈ bs, H x.2.1 = some (.dK (kv x.2.2)) ∧ x.2.1 ≠ B ∧ H0 x.2.1 = none
theorem BdAt.same {H0 H H' : Hp} {B : Addr} {bs : Bd} (h : BdAt H0 H B bs) (k : Same H H') : BdAt H0 H' B bs :=
  ⟨h.s.trans k, k _ _ h.b, fun x hx => ⟨k _ _ (h.e x hx).1, (h.e x hx).2⟩⟩
/-- what the words of a bag are at first -/
def begB (L : Tb) (bs : Bd) : Prop := bs.map (fun e => (e.1, e.2.2)) = L.map fun p => ((p.1, unitT p.2) : Str × Tb)
theorem begB_keys {L : Tb} {bs : Bd} (h : begB L bs) : bs.map (·.1) = L.map (·.1) := by
  have := congrArg (List.map fun q : Str × Tb => q.1) h
  rw [List.map_map, List.map_map] at this
  exact this
theorem begB_mem {L : Tb} {bs : Bd} (h : begB L bs) {x : Str × Addr × Tb} (hx : x ∈ bs) : ∃ p ∈ L, x.1 = p.1 ∧ x.2.2 = unitT p.2 := by
  have : (x.1, x.2.2) ∈ L.map fun p => ((p.1, unitT p.2) : Str × Tb) := by
    rw [← h]
    exact List.mem_map.mpr ⟨x, hx, rfl⟩
  obtain ⟨p, hp, e⟩ := List.mem_map.mp this
  injection e with h1 h2
  exact ⟨p, hp, h1.symm, h2.symm⟩
theorem begB_val (fc : Nat → Tb) : ∀ {L : Tb} {bs : Bd}, begB L bs → valB fc bs = repl fc L
  | [], [], _ => rfl
  | [], _ :: _, h => by cases h
  | _ :: _, [], h => by cases h
  | p :: L, x :: bs, h => by
    have h' : ((x.1, x.2.2) : Str × Tb) :: bs.map (fun e => (e.1, e.2.2)) = ((p.1, unitT p.2) : Str × Tb) :: L.map (fun p => ((p.1, unitT p.2) : Str × Tb)) := h
    injection h' with h1 h2
    injection h1 with h3 h4
    have ih := begB_val fc (L := L) (bs := bs) h2
    unfold valB at ih ⊢
    rw [List.flatMap_cons, ih, repl_cons, h3, h4, prs_unit]
theorem begB_wt {m : Nat} : ∀ {L : Tb} {bs : Bd}, begB L bs → (∀ p ∈ L, p.1.length ≤ m) → sumB wt bs ≤ (L.length : Int) * 3 ^ m
  | [], [], _, _ => by
    show (0 : Int) ≤ (0 : Int) * 3 ^ m
    rw [Int.zero_mul]
    exact Int.le_refl _
  | [], _ :: _, h, _ => by cases h
  | _ :: _, [], h, _ => by cases h
  | p :: L, x :: bs, h, hm => by
    have h' : ((x.1, x.2.2) : Str × Tb) :: bs.map (fun e => (e.1, e.2.2)) = ((p.1, unitT p.2) : Str × Tb) :: L.map (fun p => ((p.1, unitT p.2) : Str × Tb)) := h
    injection h' with h1 h2
    injection h1 with h3 h4
    have ih := begB_wt (m := m) (L := L) (bs := bs) h2 fun q hq => hm q (List.mem_cons_of_mem _ hq)
    rw [sumB_cons, h3, h4]
    have e1 : wt p.1 (unitT p.2) = 3 ^ p.1.length := by
      show ((1 : Nat) : Int) * 3 ^ p.1.length = _
      rw [Int.natCast_one, Int.one_mul]
    have e2 : (3 : Int) ^ p.1.length ≤ 3 ^ m := by
      have := Nat.pow_le_pow_right (show 3 > 0 by decide) (hm p List.mem_cons_self)
      exact_mod_cast this
    rw [e1, List.length_cons, Int.natCast_add, Int.natCast_one, Int.add_mul, Int.one_mul]
    omega
theorem begB_rep {c : Int} {m k : Nat} {fc : Nat → Tb} {cov : Nat → Prop} {L : Tb} {bs : Bd} (h : begB L bs) (v : VT c m k L) (hcov : ∀ p ∈ L, ∀ n ∈ p.1.cps.toList, cov n) (hk1 : L ≠ [] → 1 ≤ k * 3 ^ m) : RepS c m (k * 3 ^ m) fc (repl fc L) cov bs := by
  refine ⟨by rw [begB_keys h]; exact v.nd, fun x hx => ?_, by rw [begB_val fc h]; exact Lk.refl _ _, ?_⟩
  · obtain ⟨p, hp, e1, e2⟩ := begB_mem h hx
    rw [e1, e2]
    have hn := v.nu p hp
    exact ⟨(v.wd p hp).1, (v.wd p hp).2, (vt_num _ hn.1 hn.2).mono (Nat.le_refl _) (hk1 (List.ne_nil_of_mem hp)), hcov p hp⟩
  · have h1 := begB_wt (m := m) h fun p hp => (v.wd p hp).2
    have h2 : (L.length : Int) * 3 ^ m ≤ (k : Int) * 3 ^ m := Int.mul_le_mul_of_nonneg_right (by exact_mod_cast v.ln) (Int.pow_nonneg (by decide))
    have h3 : ((k * 3 ^ m : Nat) : Int) = (k : Int) * 3 ^ m := by
      rw [Int.natCast_mul, Int.natCast_pow]
      rfl
    rw [h3]
    exact Int.le_trans h1 h2
/-- the words of so many letters, in order -/
def stB (s : Nat) (bs : Bd) : List Str := (bs.filter fun e => decide (e.1.length = s)).map (·.1)
theorem stB_take {s : Nat} {bs : Bd} {i : Nat} {p : Str × Addr × Tb} (e : bs[i]? = some p) : stB s (bs.take (i + 1)) = if p.1.length = s then stB s (bs.take i) ++ [p.1] else stB s (bs.take i) := by
  unfold stB
  rw [List.take_add_one, e, List.filter_append, List.map_append]
  by_cases h : p.1.length = s
  · rw [if_pos h]
    have : (some p).toList.filter (fun e => decide (e.1.length = s)) = [p] := List.filter_cons_of_pos (by simpa using h)
    rw [this]
    rfl
  · rw [if_neg h]
    have : (some p).toList.filter (fun e => decide (e.1.length = s)) = [] := List.filter_cons_of_neg (by simpa using h)
    rw [this]
    simp
theorem stB_mem {s : Nat} {bs : Bd} {x : Str} : x ∈ stB s bs ↔ x ∈ bs.map (·.1) ∧ x.length = s := by
  unfold stB
  rw [List.mem_map, List.mem_map]
  constructor
  · rintro ⟨e, he, rfl⟩
    obtain ⟨h1, h2⟩ := List.mem_filter.mp he
    exact ⟨⟨e, h1, rfl⟩, of_decide_eq_true h2⟩
  · rintro ⟨⟨e, he, rfl⟩, h⟩
    exact ⟨e, List.mem_filter.mpr ⟨he, decide_eq_true h⟩, rfl⟩
theorem stB_nd {s : Nat} {bs : Bd} (h : (bs.map (·.1)).Nodup) : (stB s bs).Nodup := (List.Sublist.map _ List.filter_sublist).nodup h
theorem str_nil {w : Str} (h : w.length = 0) : w = "" := PySem.W.str_of_cps (by
  have : w.cps.size = 0 := h
  have h2 : w.cps = #[] := Array.eq_empty_of_size_eq_zero this
  rw [h2]
  rfl)
theorem valB_end (fc : Nat → Tb) {bs : Bd} (hn : (bs.map (·.1)).Nodup) (h : ∀ x ∈ bs, x.1.length = 0) : valB fc bs = oldB bs "" := by
  cases bs with
  | nil => rfl
  | cons x r =>
    have hx : x.1 = "" := str_nil (h x List.mem_cons_self)
    have hr : r = [] := by
      cases r with
      | nil => rfl
      | cons y r =>
        have hy : y.1 = "" := str_nil (h y (List.mem_cons_of_mem _ List.mem_cons_self))
        have := (List.nodup_cons.mp (show (x.1 :: y.1 :: r.map (·.1)).Nodup from hn)).1
        rw [hx, hy] at this
        exact absurd List.mem_cons_self this
    subst hr
    obtain ⟨x1, x2, x3⟩ := x
    have hx : x1 = "" := hx
    subst hx
    show prs (evW fc "") x3 ++ [] = x3
    rw [List.append_nil]
    exact prs_one_l x3
section
variable {P : Program} {w : World} {K : PySem.W.Frag} {mg : Str → Option Value} {base : Heap}
def spReplaced (K : PySem.W.Frag) : Sp := fun vs H Q _ => ∃ (a d : Addr) (c : Int) (m k : Nat) (l : Tb) (f : Nat → Tb) (es : List (Nat × Addr)), vs = [.ref a, .ref d] ∧ Bg K H a c m k l ∧ isCk c ∧ m ≤ 6 ∧ k * 3 ^ m ≤ 100000 ∧ H d = some (.dK (kvr es)) ∧
  (es.map (·.1)).Nodup ∧ (∀ e ∈ es, e.1 = 120 ∨ e.1 = 121 ∨ e.1 = 122) ∧ (∀ e ∈ es, Bg K H e.2 c 2 3 (f e.1)) ∧ es.length ≤ 3 ∧ (∀ p ∈ l, ∀ n ∈ p.1.cps.toList, n ∈ es.map (·.1)) ∧
  ∀ H' b t, Same H H' → H b = none → Bg K H' b c (2 * m) (k * 3 ^ m) t → Lk c t (repl f l) → Q (.ref b) H'
abbrev nRpl : List Str := ["bag", "bags", "tables", "behinds", "size", "starts", "word", "more", "letter", "number"]
theorem sc_replaced : FnScope nRpl ["bag", "bags"] (defScope s_replaced) := ⟨rfl, rfl, rfl, by decide +kernel, rfl, by decide +kernel, by decide +kernel⟩
theorem ok_replaced (T : Top K mg) : Ok P w K mg base 8 "replaced" ["bag", "bags"] (spReplaced K) := by
  obtain ⟨fd, F⟩ := fn_replaced T
  refine ⟨⟨fd, ?_, F.bindsN fun _ _ _ _ _ _ us hl => match us, hl with | [_, _], _ => rfl⟩, g_replaced T, F.kp⟩
  refine F.ok sc_replaced (fun vs H Q E h => ?_) (fun cdv A outer s H vs Q E hr h => ?_)
  · obtain ⟨a, d, c, m, k, l, f, es, rfl, _⟩ := h
    rfl
  · obtain ⟨a, d, c, m, k, l, f, es, rfl, hb, hck, hm, hk, hd, hnd, hlt, hbg, hln, hcov, q⟩ := h
    have nd := sc_replaced.nd
    have hu := hu_of hr
    have hs : sizeLine = 16777216 := sizeLine_eq
    have hr1 : Room 1 _ := hr.mono (by decide)
    have hr2 : Room 2 _ := hr.mono (by decide)
    obtain ⟨hc2, hc7⟩ := ck_range hck
    have hc0 : 0 < c := by omega
    obtain ⟨dx, t, ea, wt'⟩ := id hb.1
    have vc := vt_canon hb.2
    obtain ⟨ps, o, e1, e2, e3⟩ := WordsAt.get wt'
    refine ⟨_, PSs.nox (pss_cons (ps_if (pt_not (pt_val (pc (ok_rep T) hr2 (pa_cons (pv 0) (pa_cons (pv 1) pa_nil))))) (pss_one ps_never) pss_nil)
      (pss_cons (ps_lock (ps_setDc (j := 2) (mine := [("letter", 8)]) (tg := gName 8) (tc := tYes) (t1 := tVar 8) (t2 := tCall (spTable K) [] E0 (tCons (tDGet (tVar 1) (tVar 8)) tNil)) rfl nd rfl rfl (sw_dict rfl rfl rfl (by decide +kernel)) (pi_keys (pv 1)) (blkOk_by (N := nRpl) (sc := defScope s_replaced) (by decide +kernel))
        (fun _ _ _ _ _ => pg_name (i := 8) nd rfl (Or.inl rfl)) (fun _ _ _ _ _ => by exact pts_nil) (fun _ _ _ _ _ => pv 8) (fun _ _ _ _ _ => by exact pc (t := tCons (tDGet (tVar 1) (tVar 8)) tNil) (ok_table_of T) hr1 (pa_cons (pe_dget hu (pv 1) (pv 8) (fun _ _ => rfl)) pa_nil))))
      (pss_cons (ps_setDc (j := 3) (mine := [("word", 6), ("number", 9)]) (tg := gPair K 6 9) (tc := tYes) (t1 := tVar 6) (t2 := tDisp [(tC (.str ""), tVar 9)]) rfl nd rfl rfl (sw_dict rfl rfl rfl (by decide +kernel)) (pi_tup (pe_fld (pv 0) rfl)) (blkOk_by (N := nRpl) (sc := defScope s_replaced) (by decide +kernel))
        (fun _ _ _ _ _ => pg_tup rfl (pgs_cons (pg_name (i := 6) nd rfl (Or.inl rfl)) (pgs_cons (pg_name (i := 9) nd rfl (Or.inl rfl)) pgs_nil))) (fun _ _ _ _ _ => by exact pts_nil) (fun _ _ _ _ _ => pv 6) (fun _ _ _ _ _ => by exact pe_disp (pps_cons pe_str (pv 9) pps_nil) (by rfl) (by rfl) (fun z => by cases z) (by decide)))
      (pss_cons (ps_for PassesOwn.never rfl (pi_range3 (by rfl) (f_range T) (pa_cons (pc (ok_length T) hr1 (pa_cons (pv 0) pa_nil)) (pa_cons pe_int (pa_cons (pe_un un_neg pe_int) pa_nil)))) (pg_name (i := 4) nd rfl (Or.inr rfl))
        (pss_cons (ps_lock (ps_setLc (i := 5) (own := [("word", 6)]) (g := gName 6) (te := tVar 6) (by rfl) nd rfl rfl (sw_true rfl rfl rfl (by decide +kernel)) (pi_keys (pv 3)) (blkOk_by (N := nRpl) (sc := defScope s_replaced) (by decide +kernel)) (fun _ _ _ _ _ => pg_name (i := 6) nd rfl (Or.inl rfl))
          (fun _ _ _ _ _ => by exact pts_one (pt_cmpR op_eq (pe_callB call_len_str (by rfl) (f_len T) PySem.boot_len (pa_cons (pv 6) pa_nil)) (pv 4) (nomark _))) (fun _ _ _ _ _ => pv 6)))
        (pss_one (ps_for PassesOwn.never rfl (pi_list (pv 5)) (pg_name (i := 6) nd rfl (Or.inl rfl))
          (pss_cons (ps_set (i := 7) nd rfl (Or.inl rfl) (pc (ok_multiplied T) hr2 (pa_cons (pe_dget hu (pv 2) (pe_ix ix_str (pv 6) (pe_un un_neg pe_int) (fun _ _ => rfl)) (fun _ _ => rfl)) (pa_cons (pe_dget hu (pv 3) (pv 6) (fun _ _ => rfl)) (pa_cons (pe_fld (pv 0) rfl) pa_nil)))))
          (pss_cons (ps_dput hu (pv 3) (pe_slice sl_str (pv 6) po_none (po_some (pe_un un_neg pe_int))) (pc (ok_added T) hr2 (pa_cons (pe_dget2 hu (pv 3) (pe_slice sl_str (pv 6) po_none (po_some (pe_un un_neg pe_int))) pe_dnewK ⟨rfl, rfl, rfl, rfl⟩) (pa_cons (pv 7) (pa_cons pe_int (pa_cons (pe_fld (pv 0) rfl) pa_nil))))) rfl)
          (pss_one (ps_ddel (pv 3) (pv 6)))))))))
      (pss_one (ps_ret (pc (ok_bag_of T) hr (pa_cons (pe_fld (pv 0) rfl) (pa_cons (pe_dget2 hu (pv 3) pe_str pe_dnewK ⟨rfl, rfl, rfl, rfl⟩) pa_nil))))))))), ?_⟩
    have hR : Reps K H d c es := ⟨hd, hnd, hlt, fun e he => ⟨_, (hbg e he).1⟩, hln⟩
    have cl : ∀ p ∈ canon l, ∃ v, (p.1, v) ∈ l := fun p hp => by
      obtain ⟨y, hy, e⟩ := List.mem_map.mp (canon_mem hp).1
      exact ⟨y.2, by rw [← e]; exact hy⟩
    refine ⟨_, rfl, _, rfl, a, d, c, canon l, es, rfl, hb.1, Nat.le_trans vc.ln (by
      have : k * 1 ≤ k * 3 ^ m := Nat.mul_le_mul_left k (Nat.one_le_pow m 3 (by decide))
      omega), hR, fun p hp => Nat.le_trans (vc.wd p hp).2 (by omega), fun p hp n hn => (cl p hp).elim fun v hv => hcov (p.1, v) hv n hn, fun H1 s1 => ⟨true, rfl, iteF ?_⟩⟩
    -- the tables of the letters
    have hbg1 : ∀ e ∈ es, Bg K H1 e.2 c 2 3 (f e.1) := fun e he => (hbg e he).same s1
    have hd1 := s1 _ _ hd
    refine ⟨d, _, hd1, trivial, fun od => ?_⟩
    refine ⟨_, rfl, d, od, rfl, .inl ⟨_, upd_same, fun TD hTD => ?_⟩⟩
    have nD : TD ≠ d := fun e => by
      rw [e, upd_same] at hTD
      cases hTD
    have hD0 : H1 TD = none := by
      rw [upd_ne nD] at hTD
      exact hTD
    refine dc_it walk_keys (fun i H' => (∃ ts : List (Nat × Addr), H' TD = some (.dK (kvr ts)) ∧ ts.map (·.1) = (es.take i).map (·.1) ∧ ∀ e ∈ ts, H' e.2 = some (.dK (kv (canon (f e.1)))) ∧ e.2 ≠ TD ∧ H1 e.2 = none) ∧ But d H1 H' ∧ H' d = some (.frz od (.dK (kvr es))))
      ⟨⟨[], upd_same, rfl, fun e he => by cases he⟩, ?_, ?_⟩ (fun i H' _ hP => hP.2.2) ?_ ?_
    · intro b' o' y n'
      rw [upd_ne (ne_of_none y hD0), upd_ne n']
      exact y
    · rw [upd_ne nD.symm]
      exact upd_same
    · rintro i x Ha Hb' hi ⟨⟨ts, p1, p2, p3⟩, p4, p5⟩ ⟨rfl, kk, vv, ee, rfl⟩
      obtain ⟨e0, ee0, rfl, rfl⟩ := kvr_at ee
      have he0 := List.mem_of_getElem? ee0
      rw [kvr_len] at hi
      refine ⟨rfl, ?_⟩
      refine ⟨_, rfl, _, rfl, _, rfl, d, .ref e0.2, rfl, .inl ⟨kvr es, Sum.inr (⟨#[e0.1]⟩ : Str), .inr ⟨od, p5⟩, rfl, ?_⟩, ?_⟩
      · rw [kvr_val hnd he0]
      have hg := hbg1 e0 he0
      refine ⟨e0.2, c, canon (f e0.1), rfl, hg.1.butD hd1 p4, canon_nd hg.2.nd, fun U hU => ?_⟩
      have sU := same_upd (o := .dK (kv (canon (f e0.1)))) hU
      have hUT : U ≠ TD := (ne_of_none p1 hU).symm
      have hUd : U ≠ d := (ne_of_none p5 hU).symm
      have hU1 : H1 U = none := by
        cases z : H1 U with
        | none => rfl
        | some u =>
          rw [p4 _ _ z hUd] at hU
          cases hU
      have tlen : ts.length ≤ 3 := by
        have := congrArg List.length p2
        rw [List.length_map, List.length_map, List.length_take] at this
        omega
      have hnew : e0.1 ∉ ts.map (·.1) := by
        rw [p2]
        intro hm'
        have h1 : (es.take (i + 1)).map (·.1) = (es.take i).map (·.1) ++ [e0.1] := by
          rw [List.take_add_one, ee0, List.map_append]
          rfl
        have h2 : ((es.take (i + 1)).map (·.1)).Nodup := by
          rw [List.map_take]
          exact (List.take_sublist _ _).nodup hnd
        rw [h1] at h2
        exact (List.nodup_append.mp h2).2.2 e0.1 hm' e0.1 (by simp) rfl
      refine ⟨_, Sum.inr (⟨#[e0.1]⟩ : Str), rfl, sU _ _ p1, by rw [kvr_len]; omega, ⟨ts ++ [(e0.1, U)], ?_, ?_, fun e he => ?_⟩, ?_, ?_⟩
      · rw [upd_same, kvr_put hnew]
      · rw [List.map_append, p2, List.take_add_one, ee0, List.map_append]
        rfl
      · rcases List.mem_append.mp he with he | he
        · obtain ⟨h1, h2, h3⟩ := p3 e he
          exact ⟨by rw [upd_ne h2]; exact sU _ _ h1, h2, h3⟩
        · have : e = (e0.1, U) := by simpa using he
          subst this
          exact ⟨by rw [upd_ne hUT]; exact upd_same, hUT, hU1⟩
      · intro b' o' y n'
        rw [upd_ne (ne_of_none y hD0)]
        exact sU _ _ (p4 b' o' y n')
      · rw [upd_ne nD.symm]
        exact sU _ _ p5
    rintro Ha ⟨⟨ts, p1, p2, p3⟩, p4, p5⟩
    rw [kvr_len, List.take_length] at p2
    have s2 := unlock hd1 p4
    refine ⟨p5, ?_⟩
    have t1 : (upd Ha d (.dK (kvr es))) TD = some (.dK (kvr ts)) := by
      rw [upd_ne nD]
      exact p1
    have t2 : ∀ e ∈ ts, (upd Ha d (.dK (kvr es))) e.2 = some (.dK (kv (canon (f e.1)))) := fun e he => by
      rw [upd_ne (fun z => by
        have := (p3 e he).1
        rw [z, p5] at this
        cases this)]
      exact (p3 e he).1
    have s12 := s1.trans s2
    generalize upd Ha d (.dK (kvr es)) = H0 at s2 s12 t1 t2 ⊢
    clear p1 p3 p4 p5 hTD nD hD0 s2 hbg1 hd1
    have ea0 := s12 _ _ ea
    have tnd : (ts.map (·.1)).Nodup := by rw [p2]; exact hnd
    -- the words
    refine ⟨_, rfl, a, _, dx, _, _, rfl, ea0, cls_Bag T, na_Bag_words T, flds_words _ _, ?_⟩
    refine ⟨t, rfl, ⟨_, .inl (.inr ⟨o, s12 _ _ e1⟩)⟩, fun B hB => ?_⟩
    refine dc_it (walk_tup (xs := ps.map V.ref)) (fun i H' => ∃ bs : Bd, BdAt H0 H' B bs ∧ begB ((canon l).take i) bs) ⟨[], ⟨same_upd hB, upd_same, fun x hx => by cases hx⟩, rfl⟩ (fun i H' _ hP => .inl (.inr ⟨o, hP.choose_spec.1.s _ _ (s12 _ _ e1)⟩)) ?_ ?_
    · rintro i x Ha' Hb' hi ⟨bs, p1, p3⟩ ⟨rfl, e⟩
      rw [List.length_map, e2] at hi
      have ep : (canon l)[i]? = some (canon l)[i] := List.getElem?_eq_getElem hi
      generalize (canon l)[i] = p at ep
      obtain ⟨b, h1, h2⟩ := e3 i p ep
      rw [List.getElem?_map, h1] at e
      have e5 : V.ref b = x := Option.some.inj e
      subst e5
      have hil : i < 900000 := by
        have h6 := vc.ln
        have h7 : k * 1 ≤ k * 3 ^ m := Nat.mul_le_mul_left k (Nat.one_le_pow m 3 (by decide))
        omega
      refine ⟨b, _, rfl, .inl (.inl (p1.s _ _ (s12 _ _ h2))), rfl, ?_⟩
      refine ⟨_, _, rfl, _, _, rfl, rfl, rfl, ?_⟩
      refine ⟨_, rfl, fun U hU => ⟨_, rfl, upd_same, kv (unitT p.2), rfl, Nat.le_of_ble_eq_true rfl, ?_⟩⟩
      have hn := vc.nu p (List.mem_of_getElem? ep)
      rw [upd_upd, merge_kv (vt_num 0 hn.1 hn.2).nd]
      have sU := same_upd (o := .dK (kv (unitT p.2))) hU
      have hUB : U ≠ B := (ne_of_none p1.b hU).symm
      have hks := begB_keys p3
      have hnew : p.1 ∉ bs.map (·.1) := by
        rw [hks]
        intro hm'
        have := nd_prefix_has vc.nd ep
        rw [has_iff.mpr hm'] at this
        cases this
      have blen : bs.length ≤ i := by
        have := congrArg List.length hks
        rw [List.length_map, List.length_map, List.length_take] at this
        omega
      refine ⟨_, Sum.inr p.1, rfl, sU _ _ p1.b, by rw [kvb_len]; omega, bs ++ [(p.1, U, unitT p.2)], ⟨fun y u z => ?_, ?_, fun y hy => ?_⟩, ?_⟩
      · rw [upd_ne (ne_of_none z hB)]
        exact sU _ _ (p1.s _ _ z)
      · rw [upd_same, putB_kvb bs p.1 (U, unitT p.2), putB_new hnew]
      · rcases List.mem_append.mp hy with hy | hy
        · obtain ⟨h5, h6, h7⟩ := p1.e y hy
          exact ⟨by rw [upd_ne h6]; exact sU _ _ h5, h6, h7⟩
        · have : y = (p.1, U, unitT p.2) := by simpa using hy
          subst this
          exact ⟨by rw [upd_ne hUB]; exact upd_same, hUB, p1.s.free hU⟩
      · show (bs ++ [(p.1, U, unitT p.2)]).map (fun e => (e.1, e.2.2)) = _
        rw [List.map_append, show bs.map (fun e => (e.1, e.2.2)) = _ from p3, List.take_add_one, ep, List.map_append]
        rfl
    rintro H2 ⟨bs0, p1, p3⟩
    rw [List.length_map, e2, List.take_length] at p3
    have hk1 : canon l ≠ [] → 1 ≤ k * 3 ^ m := fun hne => by
      have h1 : 1 ≤ (canon l).length := Nat.one_le_iff_ne_zero.mpr fun z => hne (List.eq_nil_of_length_eq_zero z)
      have h2 : 1 * 1 ≤ k * 3 ^ m := Nat.mul_le_mul (Nat.le_trans h1 vc.ln) (Nat.one_le_pow m 3 (by decide))
      omega
    have r0 : RepS c m (k * 3 ^ m) (fun n => canon (f n)) (repl (fun n => canon (f n)) (canon l)) (fun n => n ∈ es.map (·.1)) bs0 :=
      begB_rep p3 vc (fun p hp n hn => (cl p hp).elim fun v hv => hcov (p.1, v) hv n hn) hk1
    have hks0 := begB_keys p3
    have hlen0 : ∀ x ∈ bs0, (x.1.length : Int) ≤ lenL (canon l) := fun x hx => by
      obtain ⟨p, hp, h1, _⟩ := begB_mem p3 hx
      rw [h1]
      cases e : canon l with
      | nil => rw [e] at hp; cases hp
      | cons p0 r =>
        rw [e] at hp
        show (p.1.length : Int) ≤ p0.1.length
        have hs' : (ordW l).Pairwise (fun a b => leR a b = true) := PySem.W.sort_pairwise leR_total _
        rw [← canon_keys, e, List.map_cons] at hs'
        rcases List.mem_cons.mp hp with rfl | hp
        · exact Int.le_refl _
        · have := leR_len ((List.pairwise_cons.mp hs').1 p.1 (List.mem_map.mpr ⟨p, hp, rfl⟩))
          omega
    have bl0 : bs0.length ≤ 900000 := by
      have h1 := congrArg List.length hks0
      rw [List.length_map, List.length_map] at h1
      have h6 := vc.ln
      have h7 : k * 1 ≤ k * 3 ^ m := Nat.mul_le_mul_left k (Nat.one_le_pow m 3 (by decide))
      omega
    have ll6 : lenL (canon l) ≤ 6 := by
      cases e : canon l with
      | nil => show (-1 : Int) ≤ 6; decide
      | cons p0 r =>
        show (p0.1.length : Int) ≤ 6
        have := (vc.wd p0 (by rw [e]; exact List.mem_cons_self)).2
        omega
    have llm : -1 ≤ lenL (canon l) := by
      cases canon l with
      | nil => exact Int.le_refl _
      | cons p0 r =>
        show (-1 : Int) ≤ (p0.1.length : Int)
        omega
    have hb2 := hb.1.same (s12.trans p1.s)
    have ea2 := p1.s _ _ ea0
    refine ⟨_, rfl, a, c, canon l, rfl, hb2, fun p hp => Nat.le_trans (vc.wd p hp).2 (by omega), _, rfl, _, _, _, _, rfl, RgC.neg (by omega) (by omega) (by decide) (by decide), ?_⟩
    generalize hL : lenL (canon l) = LL at hlen0 ll6 llm
    refine for_it walk_rangeC (fun i σ H' => (∃ v4 v5 v6 v7 v8 v9 : Option V, σ = [some (.ref a), some (.ref d), some (.ref TD), some (.ref B), v4, v5, v6, v7, v8, v9]) ∧ ∃ bs : Bd, BdAt H0 H' B bs ∧ RepS c m (k * 3 ^ m) (fun n => canon (f n)) (repl (fun n => canon (f n)) (canon l)) (fun n => n ∈ es.map (·.1)) bs ∧ bs.length ≤ 900000 ∧ ∀ x ∈ bs, (x.1.length : Int) + i ≤ LL)
      ⟨⟨none, none, none, none, none, none, rfl⟩, bs0, p1, r0, bl0, fun x hx => by have := hlen0 x hx; omega⟩ (fun _ _ _ _ _ => trivial) ?_ ?_
    · rintro i x σ Hc Hc' hi ⟨⟨v4, v5, v6, v7, v8, v9, rfl⟩, bs, z1, z2, z3, z4⟩ ⟨rfl, rfl⟩
      obtain ⟨sz, hsz⟩ : ∃ sz : Nat, LL + (i : Int) * -1 = sz := ⟨(LL + (i : Int) * -1).toNat, by omega⟩
      have hsz1 : 1 ≤ sz := by omega
      show gName 4 (.int (LL + (i : Int) * -1)) _ _ _
      rw [hsz]
      -- the words of this length
      refine ⟨B, _, z1.b, trivial, fun od2 => ?_⟩
      refine ⟨_, rfl, B, od2, rfl, .inl ⟨_, upd_same, fun SL hSL => ?_⟩⟩
      have nS : SL ≠ B := fun e => by
        rw [e, upd_same] at hSL
        cases hSL
      have hS0 : Hc' SL = none := by
        rw [upd_ne nS] at hSL
        exact hSL
      refine lc_it walk_keys (fun j H' => H' SL = some (.lst ((stB sz (bs.take j)).map V.str)) ∧ But B Hc' H' ∧ H' B = some (.frz od2 (.dK (kvb bs)))) ⟨upd_same, ?_, ?_⟩ (fun j H' _ hP => hP.2.2) ?_ ?_
      · intro b' o' y n'
        rw [upd_ne (ne_of_none y hS0), upd_ne n']
        exact y
      · rw [upd_ne nS.symm]
        exact upd_same
      · rintro j x Hd Hd' hj ⟨r1, r2, r3⟩ ⟨rfl, kk, vv, ee, rfl⟩
        obtain ⟨p, ep, rfl, rfl⟩ := kvb_at ee
        rw [kvb_len] at hj
        have hp := List.mem_of_getElem? ep
        have hpl := (z2.xy p hp).2.1
        have et := stB_take (s := sz) ep
        refine ⟨rfl, ?_⟩
        refine ⟨_, rfl, p.1, rfl, by omega, _, rfl, rfl, _, rfl, ?_⟩
        refine ite2 (fun hz => ?_) (fun hz => ?_)
        · have hz' : p.1.length = sz := by
            have := of_decide_eq_true hz
            injection this with this
            exact Int.ofNat.inj this
          rw [if_pos hz'] at et
          refine ⟨_, rfl, _, r1, ?_, ?_, ?_, ?_⟩
          · have h8 : (stB sz (bs.take j)).length ≤ j := by
              unfold stB
              rw [List.length_map]
              exact Nat.le_trans (List.length_filter_le _ _) (by rw [List.length_take]; omega)
            rw [List.length_map]
            omega
          · rw [upd_same, et, List.map_append]
            rfl
          · intro b' o' y n'
            rw [upd_ne (ne_of_none y hS0)]
            exact r2 b' o' y n'
          · rw [upd_ne nS.symm]
            exact r3
        · have hz' : ¬ p.1.length = sz := fun y => hz (decide_eq_true (by rw [y]))
          rw [if_neg hz'] at et
          exact ⟨by rw [et]; exact r1, r2, r3⟩
      rintro Hd ⟨r1, r2, r3⟩
      rw [kvb_len, List.take_length] at r1
      have sd := unlock z1.b r2
      refine ⟨r3, ?_⟩
      have eSL : (upd Hd B (.dK (kvb bs))) SL = some (.lst ((stB sz bs).map V.str)) := by
        rw [upd_ne nS]
        exact r1
      replace z1 := z1.same sd
      generalize upd Hd B (.dK (kvb bs)) = He at z1 eSL ⊢
      clear r1 r2 r3 hSL hS0 sd
      refine ⟨_, rfl, SL, rfl, ⟨_, SqL.of eSL⟩, ?_⟩
      generalize hst : stB sz bs = st at eSL
      have snd : st.Nodup := hst ▸ stB_nd z2.nd
      have sall : ∀ y ∈ st, y.length = sz := fun y hy => (stB_mem.mp (hst ▸ hy)).2
      refine for_it (walk_list (xs := st.map V.str)) (fun j σ H' => (∃ v6 v7 : Option V, σ = [some (.ref a), some (.ref d), some (.ref TD), some (.ref B), some (.int sz), some (.ref SL), v6, v7, v8, v9]) ∧ H' SL = some (.lst (st.map V.str)) ∧ ∃ bs : Bd, BdAt H0 H' B bs ∧ RepS c m (k * 3 ^ m) (fun n => canon (f n)) (repl (fun n => canon (f n)) (canon l)) (fun n => n ∈ es.map (·.1)) bs ∧ bs.length ≤ 900000 ∧ (∀ x ∈ bs, (x.1.length : Int) + i ≤ LL) ∧
          (∀ x ∈ bs, x.1.length = sz → x.1 ∈ st.drop j) ∧ ∀ y ∈ st.drop j, y ∈ bs.map (·.1))
        ⟨⟨_, _, rfl⟩, eSL, bs, z1, z2, z3, z4, fun x hx hl => by
          rw [List.drop_zero, ← hst]
          exact stB_mem.mpr ⟨List.mem_map.mpr ⟨x, hx, rfl⟩, hl⟩, fun y hy => by
          rw [List.drop_zero, ← hst] at hy
          exact (stB_mem.mp hy).1⟩ (fun j σ H' _ hP => .inl (.inl hP.2.1)) ?_ ?_
      · clear z1 z2 z3 z4 hst
        rintro j x σ Hf Hf' hj ⟨⟨w6, w7, rfl⟩, eS, bs, z1, z2, z3, z4, z5, z6⟩ ⟨rfl, ex⟩
        rw [List.length_map] at hj
        rw [List.getElem?_map, List.getElem?_eq_getElem hj] at ex
        have ex : V.str st[j] = x := Option.some.inj ex
        subst ex
        have hdrop : st.drop j = st[j] :: st.drop (j + 1) := List.drop_eq_getElem_cons hj
        have hwl : st[j].length = sz := sall _ (List.getElem_mem hj)
        have hwk : st[j] ∈ bs.map (·.1) := z6 _ (by rw [hdrop]; exact List.mem_cons_self)
        have hnd' : st[j] ∉ st.drop (j + 1) := by
          have h9 : (st.drop j).Nodup := (List.drop_sublist _ _).nodup snd
          rw [hdrop] at h9
          exact (List.nodup_cons.mp h9).1
        generalize st[j] = w0 at hdrop hwl hwk hnd' ⊢
        obtain ⟨v, n, rfl⟩ := last_ex (w := w0) (by omega)
        rw [len_one] at hwl
        obtain ⟨⟨w1, a1, t1'⟩, hmem, hw1⟩ := List.mem_map.mp hwk
        have hw1 : w1 = v ++ ⟨#[n]⟩ := hw1
        subst hw1
        obtain ⟨x1, x2, x3, x4⟩ := z2.xy _ hmem
        obtain ⟨y1, y2, y3⟩ := z1.e _ hmem
        have hnc : n ∈ ts.map (·.1) := by
          rw [p2]
          exact x4 n (by rw [cps_app]; exact List.mem_append_right _ (by simp))
        obtain ⟨⟨n', ad⟩, hts, hn'⟩ := List.mem_map.mp hnc
        have hn' : n' = n := hn'
        subst hn'
        have ead := t2 _ hts
        have ead' := z1.s _ _ ead
        obtain ⟨e9, he9, hh9⟩ : ∃ e ∈ es, e.1 = n' := by
          have : n' ∈ es.map (·.1) := by rw [← p2]; exact hnc
          exact List.mem_map.mp this
        have hfn : VT c 2 3 (canon (f n')) := by
          have := vt_canon (hbg e9 he9).2
          rw [hh9] at this
          exact this
        have x2' : (v ++ (⟨#[n']⟩ : Str)).length ≤ m := x2
        rw [len_one] at x2'
        have hza : a1 ≠ ad := fun z => by
          rw [← z, y3] at ead
          cases ead
        -- more
        refine ⟨_, rfl, _, rfl, _, rfl, v ++ ⟨#[n']⟩, -1, n', rfl, rfl, by rw [len_one]; omega, by rw [cps_app]; exact atI_last _ _, ?_⟩
        refine ⟨TD, .ref ad, rfl, DGet.k (k := Sum.inr (⟨#[n']⟩ : Str)) (z1.s _ _ t1) |> fun q9 => by rw [kvr_val tnd hts] at q9; exact q9, ?_⟩
        have hgv : valV (kvb bs) (Sum.inr (v ++ (⟨#[n']⟩ : Str)) : Key) = some (.ref a1) := by
          rw [kvb_val, getB_of z2.nd hmem]
          rfl
        have eaf := z1.s _ _ ea0
        obtain ⟨st1, st2⟩ := z2.step (b := 0) hc0 hmem hfn
        clear st2
        have hk3 : 3 * (k * 3 ^ m) ≤ 900000 := by omega
        refine ⟨_, rfl, _, rfl, B, .ref a1, rfl, DGet.k (k := Sum.inr (v ++ (⟨#[n']⟩ : Str))) z1.b |> fun q9 => by rw [hgv] at q9; exact q9, ?_⟩
        refine ⟨_, rfl, a, _, dx, _, _, rfl, eaf, cls_Bag T, na_Bag_clock T, flds_clock _ _, ?_⟩
        refine ⟨ad, a1, c, 2, 3, _, _, _, t1', rfl, hc0, hc7, hza.symm, ead', y1, hfn, x3, by decide, by omega, hk3, fun Hg D1 s3 n3 e3 => ?_⟩
        have n3' : H0 D1 = none := z1.s.free n3
        replace z1 := z1.same s3
        replace eS := s3 _ _ eS
        replace eaf := s3 _ _ eaf
        have hlv : (v ++ (⟨#[n']⟩ : Str)).length ≤ sizeLine := by
          rw [len_one]
          omega
        refine ⟨_, rfl, B, rfl, .inl ⟨_, .inl z1.b⟩, _, rfl, 1, rfl, -1, rfl, _, rfl, hlv, ?_⟩
        rw [cut_last]
        refine fun p np => ⟨_, DGet.k (k := Sum.inr v) (same_upd (o := .dK []) np _ _ z1.b), ?_⟩
        have sp := same_upd (o := .dK []) np
        obtain ⟨q0, eq0, hq0⟩ : ∃ q0, ((valV (kvb bs) (Sum.inr v : Key)).getD (.ref p)) = V.ref q0 ∧ (upd Hg p (.dK [])) q0 = some (.dK (kv (oldB bs v))) := by
          rw [kvb_val]
          unfold oldB
          cases eg : getB bs v with
          | none => exact ⟨p, rfl, upd_same⟩
          | some u => exact ⟨u.1, rfl, sp _ _ (z1.e _ (getB_mem eg)).1⟩
        rw [eq0]
        replace z1 := z1.same sp
        have old1 := z2.old v
        refine ⟨_, rfl, _, rfl, a, _, dx, _, _, rfl, sp _ _ eaf, cls_Bag T, na_Bag_clock T, flds_clock _ _, ?_⟩
        refine ⟨q0, D1, 1, c, oldB bs v, _, rfl, hc0, hc7, hq0, sp _ _ e3, old1.nd, st1.nu, Nat.le_trans old1.ln (by omega), Nat.le_trans st1.ln (by omega), fun Hh D2 s4 n4 e4 => ?_⟩
        have n4' : H0 D2 = none := z1.s.free n4
        have hDB : D2 ≠ B := (ne_of_none z1.b n4).symm
        replace z1 := z1.same s4
        replace eS := s4 _ _ (sp _ _ eS)
        refine ⟨_, rfl, _, rfl, 1, rfl, -1, rfl, _, rfl, hlv, ?_⟩
        rw [cut_last]
        refine ⟨B, _, rfl, DPut.k (k := Sum.inr v) z1.b (by rw [kvb_len]; omega), ?_⟩
        rw [putB_kvb bs v (D2, tidyM c (addT (scl 1 (tidyM c (multT (canon (f n')) t1'))) (oldB bs v)))]
        generalize hnew : tidyM c (addT (scl 1 (tidyM c (multT (canon (f n')) t1'))) (oldB bs v)) = new at e4
        have hst2 : RepS c m (k * 3 ^ m) (fun n => canon (f n)) (repl (fun n => canon (f n)) (canon l)) (fun n => n ∈ es.map (·.1)) (dropB (putB bs v (D2, new)) (v ++ ⟨#[n']⟩)) := by
          rw [← hnew]
          exact (z2.step (b := D2) hc0 hmem hfn).2
        have hmem' : (v ++ ⟨#[n']⟩, a1, t1') ∈ putB bs v (D2, new) := by
          unfold putB
          cases bs.any fun e => decide (e.1 = v) with
          | true =>
            rw [if_pos rfl]
            exact List.mem_map.mpr ⟨_, hmem, by rw [if_neg (one_ne v n')]⟩
          | false =>
            rw [if_neg Bool.false_ne_true]
            exact List.mem_append_left _ hmem
        refine ⟨_, rfl, _, rfl, B, _, Sum.inr (v ++ (⟨#[n']⟩ : Str)), rfl, upd_same, rfl, ?_, ?_⟩
        · rw [kvb_val, getB_of (putB_nd z2.nd v (D2, new)) hmem']
          rfl
        rw [upd_upd, dropB_kvb]
        have hSB : SL ≠ B := ne_of eS z1.b (by intro z; cases z)
        refine ⟨⟨_, _, rfl⟩, by rw [upd_ne hSB]; exact eS, dropB (putB bs v (D2, new)) (v ++ ⟨#[n']⟩), ⟨fun y u z => ?_, upd_same, fun y hy => ?_⟩, hst2, ?_, fun y hy => ?_, fun y hy hl => ?_, fun y hy => ?_⟩
        · rw [upd_ne (ne_of_none z hB)]
          exact z1.s _ _ z
        · obtain ⟨h1, h2⟩ := mem_dropB hy
          rcases mem_putB h1 with rfl | ⟨h3, h4⟩
          · exact ⟨by rw [upd_ne hDB]; exact e4, hDB, n4'⟩
          · obtain ⟨h5, h6, h7⟩ := z1.e y h3
            exact ⟨by rw [upd_ne h6]; exact h5, h6, h7⟩
        · have h1 := putB_len bs v (D2, new)
          have h2 : (dropB (putB bs v (D2, new)) (v ++ ⟨#[n']⟩)).length < (putB bs v (D2, new)).length := List.length_filter_lt_length_iff_exists.mpr ⟨_, hmem', by simp⟩
          omega
        · obtain ⟨h1, h2⟩ := mem_dropB hy
          rcases mem_putB h1 with rfl | ⟨h3, h4⟩
          · show (v.length : Int) + i ≤ LL
            omega
          · exact z4 y h3
        · obtain ⟨h1, h2⟩ := mem_dropB hy
          rcases mem_putB h1 with rfl | ⟨h3, h4⟩
          · have hl' : v.length = sz := hl
            omega
          · have h5 := z5 y h3 hl
            rw [hdrop] at h5
            rcases List.mem_cons.mp h5 with h5 | h5
            · exact absurd h5 h2
            · exact h5
        · have h1 := z6 y (by rw [hdrop]; exact List.mem_cons_of_mem _ hy)
          have h2 : y ∈ (putB bs v (D2, new)).map (·.1) := by
            rw [putB_keys]
            split
            · exact h1
            · exact List.mem_append_left _ h1
          obtain ⟨e, he, rfl⟩ := List.mem_map.mp h2
          refine List.mem_map.mpr ⟨e, List.mem_filter.mpr ⟨he, decide_eq_true fun z => hnd' (z ▸ hy)⟩, rfl⟩
      · rintro σ Hf ⟨⟨w6, w7, rfl⟩, eS, bs, y1, y2, y3, y4, y5, y6⟩
        refine ⟨⟨_, _, _, _, _, _, rfl⟩, bs, y1, y2, y3, fun x hx => ?_⟩
        have h1 := y4 x hx
        have h2 : x.1.length ≠ sz := fun z => by
          have := y5 x hx z
          rw [List.length_map, List.drop_length] at this
          cases this
        omega
    · rintro σ Hf ⟨⟨v4, v5, v6, v7, v8, v9, rfl⟩, bs, z1, z2, z3, z4⟩
      have hz : ∀ x ∈ bs, x.1.length = 0 := fun x hx => by
        have := z4 x hx
        omega
      refine ⟨_, rfl, a, _, dx, _, _, rfl, z1.s _ _ ea0, cls_Bag T, na_Bag_clock T, flds_clock _ _, ?_⟩
      refine ⟨_, rfl, B, rfl, .inl ⟨_, .inl z1.b⟩, fun p np => ⟨_, DGet.k (k := Sum.inr "") (same_upd (o := .dK []) np _ _ z1.b), ?_⟩⟩
      have sp := same_upd (o := .dK []) np
      obtain ⟨q0, eq0, hq0⟩ : ∃ q0, ((valV (kvb bs) (Sum.inr "" : Key)).getD (.ref p)) = V.ref q0 ∧ (upd Hf p (.dK [])) q0 = some (.dK (kv (oldB bs ""))) := by
        rw [kvb_val]
        unfold oldB
        cases eg : getB bs "" with
        | none => exact ⟨p, rfl, upd_same⟩
        | some u => exact ⟨u.1, rfl, sp _ _ (z1.e _ (getB_mem eg)).1⟩
      rw [eq0]
      have old1 := (z2.old "").mono (m' := 2 * m) (k' := k * 3 ^ m) (by omega) (Nat.le_refl _)
      refine ⟨c, q0, _, rfl, hck, hq0, old1.nd, fun p hp => Nat.le_trans (old1.wd p hp).2 (by omega), Nat.le_trans old1.ln (by omega), fun H' b s' n' hb' => ?_⟩
      obtain ⟨w3, w4⟩ := vt_again hc0 old1
      refine q H' b _ ((s12.trans z1.s).trans (sp.trans s')) ((s12.trans z1.s).free (sp.free n')) ⟨hb', w3⟩ (w4.trans ?_)
      rw [← valB_end _ z2.nd hz]
      refine z2.g.trans (((repl_lk (g := f) (canon l) fun p hp n hn => ?_)).trans (Lk.repl f (lk_canon hb.2.nd)))
      obtain ⟨v, hv⟩ := cl p hp
      obtain ⟨e, he, he'⟩ := List.mem_map.mp (hcov (p.1, v) hv n hn)
      have := (hbg e he).2.nd
      rw [he'] at this
      exact lk_canon this
end
end Fp

set_option Elab.async false
set_option linter.all false
set_option maxRecDepth 100000
set_option maxHeartbeats 4000000
namespace Fp
open PySem PySem.Spec PyProof.Rows L2
section
variable {P : Program} {w : World} {K : PySem.W.Frag} {mg : Str → Option Value} {base : Heap}
def spWords : Sp := fun vs H Q _ => ∃ (d : Addr) (l : Tb), vs = [.ref d] ∧ H d = some (.dK (kv l)) ∧ Nd l ∧ (∀ p ∈ l, p.1.length ≤ 1000000) ∧ l.length ≤ 1000000 ∧ ∀ H' t, Same H H' → H t = none → WordsAt H' t (canon l) → Q (.ref t) H'
abbrev nWords : List Str := ["_law_bag", "_law_word_here"]
theorem sc_words : FnScope nWords ["_law_bag"] (defScope s__law_words) := ⟨rfl, rfl, rfl, by decide +kernel, rfl, by decide +kernel, by decide +kernel⟩
theorem ok_words (T : Top K mg) : Ok P w K mg base 3 "_law_words" ["_law_bag"] spWords := by
  obtain ⟨fd, F⟩ := fn__law_words T
  refine ⟨⟨fd, ?_, F.bindsN fun _ _ _ _ _ _ us hl => match us, hl with | [_], _ => rfl⟩, g__law_words T, F.kp⟩
  refine F.ok sc_words (fun vs H Q E h => ?_) (fun cdv A outer s H vs Q E hr h => ?_)
  · obtain ⟨d, l, rfl, _⟩ := h
    rfl
  · obtain ⟨d, l, rfl, hd, hnd, hwl, hll, q⟩ := h
    have hu := hu_of hr
    have nd := sc_words.nd
    have hs : sizeLine = 16777216 := sizeLine_eq
    refine ⟨_, PSs.nox (pss_one (ps_ret (pe_callTy call_tupleF (by rfl) (f_tuple T) (by decide +kernel) (pa_cons (pe_lc (own := [("_law_word_here", 1)]) (g := gName 1) (tt := tYes) rfl nd
      (pi_list (pc (ok_order T) hr (pa_cons (pv 0) pa_nil)))
      (blkOk_by (N := nWords) (sc := defScope s__law_words) (by decide +kernel)) (fun _ _ _ _ _ => pg_name (i := 1) nd rfl (Or.inl rfl)) (fun _ _ _ _ _ => pts_nil)
      (fun _ _ _ _ _ => pe_tup (pa_cons (pv 1) (pa_cons (pe_dget hu (pv 0) (pv 1) (fun _ _ => rfl)) pa_nil)))) pa_nil)))), ?_⟩
    refine ⟨_, rfl, d, l, rfl, hd, hwl, hll, fun H1 S s1 nS eS => ?_⟩
    refine ⟨S, rfl, ⟨_, SqL.of eS⟩, fun D hD => ?_⟩
    have hD0 : H D = none := s1.free hD
    have nDS : S ≠ D := ne_of_none eS hD
    refine lc_it (walk_list (xs := (ordW l).map V.str)) (fun i H' => ∃ ps : List Addr, H' D = some (.lst (ps.map V.ref)) ∧ ps.length = i ∧ Paired (fun p (q : Str × Int) => H' p = some (.tup [.str q.1, .int q.2])) ps ((canon l).take i) ∧ Same H1 H' ∧ H' S = some (.lst ((ordW l).map V.str)))
      ⟨[], upd_same, rfl, .nil, same_upd hD, by rw [upd_ne nDS]; exact eS⟩ (fun i H' _ hP => .inl (.inl hP.choose_spec.2.2.2.2)) ?_ ?_
    · rintro i x H3 H2 hi ⟨ps, p1, p2, p3, p4, p5⟩ ⟨rfl, e⟩
      rw [List.length_map, ordW_len] at hi
      rw [List.getElem?_map] at e
      cases ew : (ordW l)[i]? with
      | none => rw [ew] at e; cases e
      | some x0 =>
        rw [ew] at e
        have e2 : V.str x0 = x := Option.some.inj e
        subst e2
        have hx0 : x0 ∈ l.map (·.1) := ordW_mem.mp (List.mem_of_getElem? ew)
        refine ⟨rfl, ?_⟩
        refine ⟨_, rfl, _, rfl, _, rfl, d, .int (num l x0), rfl, .inl ⟨kv l, Sum.inr x0, .inl (p4 _ _ (s1 _ _ hd)), rfl, (valV_yes (has_iff.mpr hx0)).symm⟩, ?_⟩
        refine ⟨by show 2 ≤ sizeLine; omega, fun p hp => ?_⟩
        have npD : D ≠ p := ne_of_none p1 hp
        have npS : S ≠ p := ne_of_none p5 hp
        refine ⟨ps.map V.ref, by rw [upd_ne npD]; exact p1, by rw [List.length_map]; omega, ps ++ [p], ?_, ?_, ?_, ?_, ?_⟩
        · rw [upd_same, List.map_append]
          rfl
        · rw [List.length_append, p2]
          rfl
        · have ec : (canon l).take (i + 1) = (canon l).take i ++ [(x0, num l x0)] := by
            rw [List.take_add_one]
            unfold canon
            rw [List.getElem?_map, ew]
            rfl
          rw [ec]
          refine Paired.snoc (Paired.mapP p3 fun a b z => ?_) ?_
          · rw [upd_ne (ne_of z p1 (by intro y; cases y)), upd_ne (ne_of_none z hp)]
            exact z
          · rw [upd_ne npD.symm]
            exact upd_same
        · intro b o z
          rw [upd_ne (ne_of_none z hD), upd_ne (ne_of_none (p4 b o z) hp)]
          exact p4 b o z
        · rw [upd_ne nDS, upd_ne npS]
          exact p5
    · rintro H' ⟨ps, p1, p2, p3, p4, p5⟩
      have en : ((ordW l).map V.str).length = (canon l).length := by
        unfold canon
        rw [List.length_map, List.length_map]
      rw [en, List.take_length] at p3
      refine ⟨D, ps.map V.ref, rfl, .inl (.inl p1), fun t o ht hpt => ?_⟩
      have s4 := s1.trans p4
      refine q _ t (s4.trans (same_upd ht)) (s4.free ht) ⟨ps, o, upd_same, hpt, Paired.mapP p3 fun a b z => ?_⟩
      rw [upd_ne (ne_of_none z ht)]
      exact z
/-- told just so -/
def spIs (K : PySem.W.Frag) : Sp := fun vs H Q _ => ∃ (b d : Addr) (c : Int) (l : Tb), vs = [.ref b, .int c, .ref d] ∧ BagAt K H b c (canon l) ∧ H d = some (.dK (kv l)) ∧ Nd l ∧ (∀ p ∈ l, p.1.length ≤ 1000000) ∧ l.length ≤ 1000000 ∧ ∀ H', Same H H' → Q (.bl true) H'
abbrev nIs : List Str := ["_law_told", "_law_clock_here", "_law_bag"]
theorem sc_is : FnScope nIs nIs (defScope s__law_is) := ⟨rfl, rfl, rfl, by decide +kernel, rfl, by decide +kernel, by decide +kernel⟩
theorem ok_is (T : Top K mg) : Ok P w K mg base 4 "_law_is" nIs (spIs K) := by
  obtain ⟨fd, F⟩ := fn__law_is T
  refine ⟨⟨fd, ?_, F.bindsN fun _ _ _ _ _ _ us hl => match us, hl with | [_, _, _], _ => rfl⟩, g__law_is T, F.kp⟩
  refine F.ok sc_is (fun vs H Q E h => ?_) (fun cdv A outer s H vs Q E hr h => ?_)
  · obtain ⟨b, d, c, l, rfl, _⟩ := h
    rfl
  · obtain ⟨b, d, c, l, rfl, ⟨dx, t, ea, hw⟩, hd, hnd, hwl, hll, q⟩ := h
    refine ⟨_, PSs.nox (pss_one (ps_ret (pe_and (pe_callB call_isi (by rfl) (f_isinstance T) (by decide +kernel) (pa_cons (pv 0) (pa_cons (pe_glob (v := .ref (He.ga K "Bag")) rfl (g_Bag T) rfl) pa_nil)))
      (pe_and (pe_cmpR op_eq (pe_fld (pv 0) rfl) (pv 1) (nomark _)) (pe_one (pe_cmpR (op_eqP hr.units) (pe_fld (pv 0) rfl) (pc (ok_words T) hr (pa_cons (pv 2) pa_nil)) (nomark _))))))), ?_⟩
    refine ⟨_, rfl, _, _, _, _, true, rfl, .own _, .base (.ins ea (cls_Bag T) (x_class T) (x_get T) (x_takes T) (x_mro T)), x_is T, true, rfl, iteT ?_⟩
    refine ⟨_, rfl, b, _, dx, _, _, rfl, ea, cls_Bag T, na_Bag_clock T, flds_clock _ _, _, rfl, rfl, _, rfl, ?_⟩
    rw [decide_eq_true rfl]
    refine iteT ?_
    refine ⟨_, rfl, b, _, dx, _, _, rfl, ea, cls_Bag T, na_Bag_words T, flds_words _ _, ?_⟩
    refine ⟨_, rfl, d, l, rfl, hd, hnd, hwl, hll, fun H' t' s' nt' wt' => ?_⟩
    refine ⟨dW (canon l), dW (canon l), dp_words (hw.same s'), dp_words wt', dW_plain _, dW_plain _, dW_depth _, ?_⟩
    rw [dW_eqv, decide_eq_true rfl]
    exact q H' s'
end
end Fp

set_option Elab.async false
set_option linter.all false
set_option maxRecDepth 100000
set_option maxHeartbeats 4000000
namespace Fp
open PySem PySem.Spec PyProof.Rows L2
section
variable {P : Program} {w : World} {K : PySem.W.Frag} {mg : Str → Option Value} {base : Heap}
def spProd2 : Sp := fun vs H Q _ => ∃ (c : Int) (d1 d2 : Addr) (m1 m2 k1 k2 : Nat) (l1 l2 : Tb), vs = [.int c, .ref d1, .ref d2] ∧ 0 < c ∧ c ≤ 7 ∧ d1 ≠ d2 ∧ H d1 = some (.dK (kv l1)) ∧ H d2 = some (.dK (kv l2)) ∧ VT c m1 k1 l1 ∧ VT c m2 k2 l2 ∧ m1 ≤ 1000 ∧ m2 ≤ 1000 ∧ k1 * k2 ≤ 900000 ∧
  ∀ H' d, Same H H' → H d = none → H' d = some (.dK (kv (prodM c l1 l2))) → Q (.ref d) H'
abbrev nProd2 : List Str := ["_law_clock_here", "_law_one", "_law_other", "_law_found", "_law_front", "_law_back"]
theorem sc_prod2 : FnScope nProd2 ["_law_clock_here", "_law_one", "_law_other"] (defScope s__law_product) := ⟨rfl, rfl, rfl, by decide +kernel, rfl, by decide +kernel, by decide +kernel⟩
theorem ok_prod2 (T : Top K mg) : Ok P w K mg base 2 "_law_product" ["_law_clock_here", "_law_one", "_law_other"] spProd2 := by
  obtain ⟨fd, F⟩ := fn__law_product T
  refine ⟨⟨fd, ?_, F.bindsN fun _ _ _ _ _ _ us hl => match us, hl with | [_, _, _], _ => rfl⟩, g__law_product T, F.kp⟩
  refine F.ok sc_prod2 (fun vs H Q E h => ?_) (fun cdv A outer s H vs Q E hr h => ?_)
  · obtain ⟨c, d1, d2, m1, m2, k1, k2, l1, l2, rfl, _⟩ := h
    rfl
  · obtain ⟨c, d1, d2, m1, m2, k1, k2, l1, l2, rfl, hc, hc7, n12, h1, h2, v1, v2, hm1, hm2, hkk, q⟩ := h
    have nd := sc_prod2.nd
    have hu := hu_of hr
    have hs : sizeLine = 16777216 := sizeLine_eq
    have hl1 := v1.ln
    have hl2 := v2.ln
    refine ⟨_, PSs.nox (pss_cons (ps_set (i := 3) nd rfl (Or.inl rfl) pe_dnewK)
      (pss_cons (ps_lock (ps_for PassesOwn.never rfl (pi_keys (pv 1)) (pg_name (i := 4) nd rfl (Or.inl rfl))
        (pss_one (ps_lock (ps_for PassesOwn.never rfl (pi_keys (pv 2)) (pg_name (i := 5) nd rfl (Or.inl rfl))
          (pss_one (ps_expr (pc (ok_put T) hr (pa_cons (pv 0) (pa_cons (pv 3) (pa_cons (pe_op op_add_str (pv 4) (pv 5)) (pa_cons (pe_op op_mul (pe_dget hu (pv 1) (pv 4) (fun _ _ => rfl)) (pe_dget hu (pv 2) (pv 5) (fun _ _ => rfl))) pa_nil))))))))))))
      (pss_one (ps_ret (pv 3))))), ?_⟩
    refine fun F0 hF => ?_
    have n1F : d1 ≠ F0 := ne_of_none h1 hF
    have n2F : d2 ≠ F0 := ne_of_none h2 hF
    refine ⟨d1, .dK (kv l1), by rw [upd_ne n1F]; exact h1, trivial, fun od => ?_⟩
    refine ⟨_, rfl, d1, od, rfl, .inl ⟨kv l1, upd_same, ?_⟩⟩
    refine for_it walk_keys (fun i σ H' => (∃ v u, σ = [some (.int c), some (.ref d1), some (.ref d2), some (.ref F0), v, u]) ∧ H' F0 = some (.dK (kv (prodM c (l1.take i) l2))) ∧ But d1 H H' ∧ H' d1 = some (.frz od (.dK (kv l1))))
      ⟨⟨none, none, rfl⟩, ?_, ?_, upd_same⟩ (fun i σ H' _ hP => hP.2.2.2) ?_ ?_
    · rw [upd_ne n1F.symm, upd_same]
      rfl
    · intro b o e n
      rw [upd_ne n, upd_ne (ne_of_none e hF)]
      exact e
    · rintro i x σ H1 H2 hi ⟨⟨v, u, rfl⟩, p1, p2, p3⟩ ⟨rfl, k, v', e, rfl⟩
      obtain ⟨p, ep, rfl, rfl⟩ := kv_at e
      have hp : p ∈ l1 := List.mem_of_getElem? ep
      have hil : i < l1.length := (List.getElem?_eq_some_iff.mp ep).1
      refine ⟨d2, .dK (kv l2), p2 _ _ h2 n12.symm, trivial, fun od2 => ?_⟩
      refine ⟨_, rfl, d2, od2, rfl, .inl ⟨kv l2, upd_same, ?_⟩⟩
      refine for_it walk_keys (fun j σ H' => (∃ u, σ = [some (.int c), some (.ref d1), some (.ref d2), some (.ref F0), some (.str p.1), u]) ∧ H' F0 = some (.dK (kv ((l2.take j).foldl (fun acc q => putM c acc (p.1 ++ q.1) (p.2 * q.2)) (prodM c (l1.take i) l2)))) ∧
          (∀ b o, H b = some o → b ≠ d1 → b ≠ d2 → H' b = some o) ∧ H' d1 = some (.frz od (.dK (kv l1))) ∧ H' d2 = some (.frz od2 (.dK (kv l2))))
        ⟨⟨u, rfl⟩, ?_, ?_, ?_, upd_same⟩ (fun i σ H' _ hP => hP.2.2.2.2) ?_ ?_
      · rw [upd_ne n2F.symm]
        exact p1
      · intro b o z na nb
        rw [upd_ne nb]
        exact p2 b o z na
      · rw [upd_ne n12]
        exact p3
      · rintro j x σ H3 H4 hj ⟨⟨u', rfl⟩, r1, r2, r3, r4⟩ ⟨rfl, k, v'', e', rfl⟩
        obtain ⟨q0, eq0, rfl, rfl⟩ := kv_at e'
        have hq : q0 ∈ l2 := List.mem_of_getElem? eq0
        have hn1 := v1.nu p hp
        have hn2 := v2.nu q0 hq
        have hw1 := v1.wd p hp
        have hw2 := v2.wd q0 hq
        refine ⟨_, rfl, _, rfl, _, rfl, _, rfl, _, _, rfl, rfl, by have := hw1.2; have := hw2.2; omega, ?_⟩
        refine ⟨_, rfl, _, rfl, d1, .int p.2, rfl, .inl ⟨kv l1, Sum.inr p.1, .inr ⟨od, r3⟩, rfl, by rw [valV_yes (has_of ep), num_of v1.nd ep]⟩, ?_⟩
        refine ⟨_, rfl, _, rfl, d2, .int q0.2, rfl, .inl ⟨kv l2, Sum.inr q0.1, .inr ⟨od2, r4⟩, rfl, by rw [valV_yes (has_of eq0), num_of v2.nd eq0]⟩, ?_⟩
        refine ⟨_, _, rfl, rfl, .inl ⟨by omega, by omega⟩, ?_⟩
        refine ⟨c, F0, p.1 ++ q0.1, p.2 * q0.2, _, rfl, hc, r1, ?_, fun H5 k5 e5 => ?_⟩
        · have b1 := len_inner c p (l2.take j) (prodM c (l1.take i) l2)
          have b5 : (prodM c (l1.take i) l2).length ≤ (l1.take i).length * l2.length := by
            have : (prodM c (l1.take i) l2).length ≤ ([] : Tb).length + (l1.take i).length * l2.length := len_prodM c l2 (l1.take i) []
            simpa using this
          have b6 : (l1.take i).length = i := by rw [List.length_take]; omega
          have b7 : (l2.take j).length ≤ l2.length := by rw [List.length_take]; omega
          have b8 : (i + 1) * l2.length ≤ l1.length * l2.length := Nat.mul_le_mul_right _ hil
          have b9 : l1.length * l2.length ≤ k1 * k2 := Nat.mul_le_mul hl1 hl2
          rw [b6] at b5
          rw [Nat.add_mul] at b8
          omega
        · refine ⟨⟨_, rfl⟩, ?_, ?_, k5 _ _ r3 n1F, k5 _ _ r4 n2F⟩
          · rw [inner_take c _ l2 p eq0]
            exact e5
          · intro b o z na nb
            exact k5 b o (r2 b o z na nb) (ne_of_none z hF)
      · rintro σ H3 ⟨⟨u', rfl⟩, r1, r2, r3, r4⟩
        rw [kv_len, List.take_length] at r1
        refine ⟨r4, ⟨_, _, rfl⟩, ?_, ?_, ?_⟩
        · rw [upd_ne n2F.symm, prodM_take c l1 l2 ep]
          exact r1
        · intro b o z na
          by_cases nb : b = d2
          · rw [nb, upd_same, ← h2, ← nb, z]
          · rw [upd_ne nb]
            exact r2 b o z na nb
        · rw [upd_ne n12]
          exact r3
    · rintro σ H' ⟨⟨v, u, rfl⟩, p1, p2, p3⟩
      rw [kv_len, List.take_length] at p1
      refine ⟨p3, ?_⟩
      refine ⟨_, rfl, ?_⟩
      refine q _ F0 (fun b o e => ?_) hF (by rw [upd_ne n1F.symm]; exact p1)
      by_cases n : b = d1
      · rw [n, upd_same, ← h1, ← n, e]
      · rw [upd_ne n]
        exact p2 b o e n
end
end Fp

set_option Elab.async false
set_option linter.all false
set_option maxRecDepth 100000
set_option maxHeartbeats 4000000
namespace Fp
open PySem PySem.Spec PyProof.Rows L2
/-! ### == and != of bags -/
section
variable {X : Cx}
theorem opEq (T : Top X.K X.mg) (hr : Room 1 X.A) : OpR X (compareOp .Eq) (rOwnEq X.K (He.ga X.K "Bag") (spEqB X.K)) := by
  obtain ⟨fd, F, b⟩ := ok_eq (P := X.prog) (w := X.w) (base := X.base) T
  exact op_ownEq F (m_Bag___eq__ T).at_ (m_Bag___eq__ T).fn b hr
theorem opNe (T : Top X.K X.mg) (hr : Room 2 X.A) : OpR X (compareOp .NotEq) (rOwnNe X.K (He.ga X.K "Bag") (spEqB X.K)) := by
  obtain ⟨fd, F, b⟩ := ok_eq (P := X.prog) (w := X.w) (base := X.base) T
  exact op_ownNe F (x_ne T) (m_Bag___eq__ T).at_ (m_Bag___eq__ T).fn (x_mro T) b hr
end
section
variable {P : Program} {w : World} {K : PySem.W.Frag} {mg : Str → Option Value} {base : Heap}
theorem nf_own (C : Addr) : PySem.W.notFirst K C (.ref C) = true := by simp [PySem.W.notFirst]
theorem rd_eq (T : Top K mg) {H : Hp} {a b : Addr} {c c' : Int} {L M : Tb} {Q : VK} (ha : BagAt K H a c L) (hb : BagAt K H b c' M) (q : Q (.bl (decide (c = c' ∧ L = M))) H) : rOwnEq K (He.ga K "Bag") (spEqB K) (.ref a) (.ref b) H Q := by
  obtain ⟨dx, t, h1, h2⟩ := id ha
  obtain ⟨dy, t', h3, h4⟩ := id hb
  exact ⟨a, dx, _, .ref (He.ga K "Bag"), rfl, h1, .base (.ins h3 (cls_Bag T) (x_class T) (x_get T) (x_takes T) (x_mro T)), nf_own _, a, .ref b, c, L, rfl, ha, .inl ⟨b, c', M, rfl, hb, _, rfl, q⟩⟩
theorem rd_ne (T : Top K mg) {H : Hp} {a b : Addr} {c c' : Int} {L M : Tb} {Q : VK} (ha : BagAt K H a c L) (hb : BagAt K H b c' M) (q : Q (.bl (!decide (c = c' ∧ L = M))) H) : rOwnNe K (He.ga K "Bag") (spEqB K) (.ref a) (.ref b) H Q := by
  obtain ⟨dx, t, h1, h2⟩ := id ha
  obtain ⟨dy, t', h3, h4⟩ := id hb
  exact ⟨a, dx, _, .ref (He.ga K "Bag"), rfl, h1, .base (.ins h3 (cls_Bag T) (x_class T) (x_get T) (x_takes T) (x_mro T)), nf_own _, a, .ref b, c, L, rfl, ha, .inl ⟨b, c', M, rfl, hb, _, rfl, q⟩⟩

end
end Fp

set_option Elab.async false
set_option linter.all false
set_option maxRecDepth 100000
set_option maxHeartbeats 4000000
namespace Fp
open PySem PySem.Spec PyProof.Rows L2
theorem prs_scl_l (a : Int) (l m : Tb) : prs (scl a l) m = scl a (prs l m) := by
  have := scl_prs a 1 l m
  rw [scl_one, Int.mul_one] at this
  exact this
theorem ev_take (f : Nat → Tb) {cs : List Nat} {j n : Nat} (e : cs[j]? = some n) : ev f (cs.take (j + 1)) = prs (ev f (cs.take j)) (f n) := by
  rw [List.take_add_one, e, ev_app]
  congr 1
  exact prs_one_r _
theorem repl_take (f : Nat → Tb) {l : Tb} {i : Nat} {p : Str × Int} (e : l[i]? = some p) : repl f (l.take (i + 1)) = repl f (l.take i) ++ scl p.2 (evW f p.1) := by
  rw [List.take_add_one, e, repl_app]
  congr 1
  show scl p.2 (evW f p.1) ++ [] = _
  rw [List.append_nil]
section
variable {P : Program} {w : World} {K : PySem.W.Frag} {mg : Str → Option Value} {base : Heap}
def spLRep : Sp := fun vs H Q _ => ∃ (c : Int) (d r : Addr) (l : Tb) (f : Nat → Tb) (rs : List (Nat × Addr)), vs = [.int c, .ref d, .ref r] ∧ 2 ≤ c ∧ c ≤ 7 ∧ H d = some (.dK (kv l)) ∧ VT c 4 6 l ∧ H r = some (.dK (kvr rs)) ∧ r ≠ d ∧
  (rs.map (·.1)).Nodup ∧ (∀ e ∈ rs, H e.2 = some (.dK (kv (f e.1))) ∧ VT c 2 3 (f e.1) ∧ e.2 ≠ d) ∧ (∀ p ∈ l, ∀ n ∈ p.1.cps.toList, n ∈ rs.map (·.1)) ∧
  ∀ H' D t, Same H H' → H D = none → H' D = some (.dK (kv t)) → VT c 8 486 t → Lk c t (repl f l) → Q (.ref D) H'
abbrev nLRep : List Str := ["_law_clock_here", "_law_words_here", "_law_bags", "_law_found", "_law_word_here", "_law_part", "_law_letter"]
theorem sc_lrep : FnScope nLRep ["_law_clock_here", "_law_words_here", "_law_bags"] (defScope s__law_replaced) := ⟨rfl, rfl, rfl, by decide +kernel, rfl, by decide +kernel, by decide +kernel⟩
theorem ok_lrep (T : Top K mg) : Ok P w K mg base 3 "_law_replaced" ["_law_clock_here", "_law_words_here", "_law_bags"] spLRep := by
  obtain ⟨fd, F⟩ := fn__law_replaced T
  refine ⟨⟨fd, ?_, F.bindsN fun _ _ _ _ _ _ us hl => match us, hl with | [_, _, _], _ => rfl⟩, g__law_replaced T, F.kp⟩
  refine F.ok sc_lrep (fun vs H Q E h => ?_) (fun cdv A outer s H vs Q E hr h => ?_)
  · obtain ⟨c, d, r, l, f, rs, rfl, _⟩ := h
    rfl
  · obtain ⟨c, d, r, l, f, rs, rfl, hc2, hc7, hd, hv, hrd, hne, hnd, hrs, hcov, q⟩ := h
    have nd := sc_lrep.nd
    have hu := hu_of hr
    have hs : sizeLine = 16777216 := sizeLine_eq
    have hc0 : 0 < c := by omega
    refine ⟨_, PSs.nox (pss_cons (ps_set (i := 3) nd rfl (Or.inl rfl) pe_dnewK)
      (pss_cons (ps_lock (ps_for PassesOwn.never rfl (pi_keys (pv 1)) (pg_name (i := 4) nd rfl (Or.inl rfl))
        (pss_cons (ps_set (i := 5) nd rfl (Or.inl rfl) (pe_disp (pps_cons pe_str (pe_dget hu (pv 1) (pv 4) (fun _ _ => rfl)) pps_nil) (by rfl) (by rfl) (fun z => by cases z) (by decide)))
        (pss_cons (ps_for PassesOwn.never rfl (pi_str (pv 4)) (pg_name (i := 6) nd rfl (Or.inl rfl)) (pss_one (ps_set (i := 5) nd rfl (Or.inl rfl) (pc (ok_prod2 T) hr (pa_cons (pv 0) (pa_cons (pv 5) (pa_cons (pe_dget hu (pv 2) (pv 6) (fun _ _ => rfl)) pa_nil)))))))
        (pss_one (ps_set (i := 3) nd rfl (Or.inl rfl) (pc (ok_plus T) hr (pa_cons (pv 0) (pa_cons (pv 3) (pa_cons (pv 5) (pa_cons pe_int pa_nil)))))))))))
      (pss_one (ps_ret (pv 3))))), ?_⟩
    refine fun F0 hF => ?_
    have n2F : d ≠ F0 := ne_of_none hd hF
    refine ⟨d, .dK (kv l), by rw [upd_ne n2F]; exact hd, trivial, fun od => ?_⟩
    refine ⟨_, rfl, d, od, rfl, .inl ⟨kv l, upd_same, ?_⟩⟩
    refine for_it walk_keys (fun i σ H' => (∃ (F : Addr) (t : Tb) (v4 v5 v6 : Option V), σ = [some (.int c), some (.ref d), some (.ref r), some (.ref F), v4, v5, v6] ∧ H' F = some (.dK (kv t)) ∧ VT c 8 (81 * i) t ∧ Lk c t (repl f (l.take i)) ∧ H F = none) ∧ But d H H' ∧ H' d = some (.frz od (.dK (kv l))))
      ⟨⟨F0, [], none, none, none, rfl, by rw [upd_ne n2F.symm]; exact upd_same, vt_nil c 8, Lk.refl _ _, hF⟩, ?_, upd_same⟩ (fun i σ H' _ hP => hP.2.2) ?_ ?_
    · intro b o e n
      rw [upd_ne n, upd_ne (ne_of_none e hF)]
      exact e
    · rintro i x σ H1 H2 hi ⟨⟨F, t, v4, v5, v6, rfl, p1, p2, p3, p4⟩, p5, p6⟩ ⟨rfl, k, v', e, rfl⟩
      obtain ⟨p, ep, rfl, rfl⟩ := kv_at e
      have hp : p ∈ l := List.mem_of_getElem? ep
      have hn := hv.nu p hp
      have hw := hv.wd p hp
      have hll := hv.ln
      rw [kv_len] at hi
      have fr : ∀ {H' : Hp}, But d H H' → (∃ o, H' d = some o) → ∀ {y : Addr}, H' y = none → H y = none := fun {H'} k ho {y} e => k.free ho e
      refine fun U' hU' => ⟨_, rfl, _, rfl, d, .int p.2, rfl, .inl ⟨kv l, Sum.inr p.1, .inr ⟨od, by rw [upd_ne (ne_of_none p6 hU')]; exact p6⟩, rfl, ?_⟩, upd_same, kv (unitT p.2), rfl, Nat.le_of_ble_eq_true rfl, ?_⟩
      · rw [valV_yes (has_of ep), num_of hv.nd ep]
      rw [upd_upd, merge_kv (vt_num 0 hn.1 hn.2).nd]
      have sU := same_upd (o := .dK (kv (unitT p.2))) hU'
      have hU0 := fr p5 ⟨_, p6⟩ hU'
      -- letter by letter
      refine ⟨_, rfl, p.1, rfl, ?_⟩
      have hpl : p.1.cps.size = p.1.length := rfl
      refine for_it walk_str (fun j σ H' => (∃ (A : Addr) (t' : Tb) (v6 : Option V), σ = [some (.int c), some (.ref d), some (.ref r), some (.ref F), some (.str p.1), some (.ref A), v6] ∧ H' A = some (.dK (kv t')) ∧ VT c (2 * j) (3 ^ j) t' ∧ Lk c t' (scl p.2 (ev f (p.1.cps.toList.take j))) ∧ H A = none) ∧ Same H2 H')
        ⟨⟨U', unitT p.2, _, rfl, upd_same, vt_num 0 hn.1 hn.2, ?_, hU0⟩, sU⟩ (fun _ _ _ _ _ => trivial) ?_ ?_
      · show Lk c (unitT p.2) (scl p.2 [("", 1)])
        show Lk c (unitT p.2) ([("", p.2 * 1)] : Tb)
        rw [Int.mul_one]
        exact Lk.refl _ _
      · rintro j x σ H3 H4 hj ⟨⟨A, t', w6, rfl, r1, r2, r3, r4⟩, r5⟩ ⟨rfl, ch, ec, rfl⟩
        have hj4 : j < 4 := by
          have := hw.2
          omega
        have ec' : p.1.cps.toList[j]? = some ch := by rw [Array.getElem?_toList]; exact ec
        have hch : ch ∈ rs.map (·.1) := hcov p hp ch (List.mem_of_getElem? ec')
        obtain ⟨e0, he0, rfl⟩ := List.mem_map.mp hch
        obtain ⟨g1, g2, g3⟩ := hrs e0 he0
        have g1' := r5 _ _ (p5 _ _ g1 g3)
        have hAe : A ≠ e0.2 := fun z => by
          rw [← z, r4] at g1
          cases g1
        have h3j : 3 ^ j ≤ 3 ^ 3 := Nat.pow_le_pow_right (by decide) (by omega)
        refine ⟨_, rfl, _, rfl, _, rfl, _, rfl, r, .ref e0.2, rfl, DGet.k (k := Sum.inr (⟨#[e0.1]⟩ : Str)) (r5 _ _ (p5 _ _ hrd hne)) |> fun q9 => by rw [kvr_val hnd he0] at q9; exact q9, ?_⟩
        refine ⟨c, A, e0.2, 2 * j, 2, 3 ^ j, 3, t', f e0.1, rfl, hc0, hc7, hAe, r1, g1', r2, g2, by omega, by decide, by omega, fun H5 D5 s5 n5 e5 => ?_⟩
        have w5 := vt_prodM hc0 r2 g2
        refine ⟨⟨D5, _, _, rfl, e5, w5.mono (by omega) (by rw [Nat.pow_succ]; exact Nat.le_refl _), ?_, fr (H' := H4) (fun b o z n => r5 _ _ (p5 b o z n)) ⟨_, r5 _ _ p6⟩ n5⟩, r5.trans s5⟩
        · refine (lk_prod hc0 r2 g2).trans ((Lk.prs_l _ r3).trans ?_)
          rw [prs_scl_l, ev_take f ec']
          exact Lk.refl _ _
      · rintro σ H3 ⟨⟨A, t', w6, rfl, r1, r2, r3, r4⟩, r5⟩
        have el : p.1.cps.toList.take p.1.cps.size = p.1.cps.toList := List.take_of_length_le (by rw [Array.length_toList]; exact Nat.le_refl _)
        rw [el] at r3
        have h4 : p.1.cps.size ≤ 4 := hw.2
        have h34 : 3 ^ p.1.cps.size ≤ 3 ^ 4 := Nat.pow_le_pow_right (by decide) h4
        have r2' : VT c 8 81 t' := r2.mono (by omega) (by omega)
        refine ⟨_, rfl, _, rfl, _, rfl, c, F, A, 1, t, t', rfl, hc0, hc7, r5 _ _ p1, r1, r2.nd, r2.nu, Nat.le_trans p2.ln (by omega), Nat.le_trans r2'.ln (by omega), fun H4 D4 s4 n4 e4 => ?_⟩
        have wp := vt_plusM hc0 p2 r2' 1
        refine ⟨⟨D4, _, _, _, _, rfl, e4, wp.mono (Nat.le_refl _) (by omega), ?_, fr (H' := H3) (fun b o z n => r5 _ _ (p5 b o z n)) ⟨_, r5 _ _ p6⟩ n4⟩, fun b o z n => s4 _ _ (r5 _ _ (p5 b o z n)), s4 _ _ (r5 _ _ p6)⟩
        rw [repl_take f ep]
        have := lk_plus (m' := 0) (f := 1) hc0 p2 r2'
        rw [scl_one] at this
        exact this.trans (p3.app r3)
    · rintro σ H' ⟨⟨F, t, v4, v5, v6, rfl, p1, p2, p3, p4⟩, p5, p6⟩
      rw [kv_len, List.take_length] at p3
      rw [kv_len] at p2
      refine ⟨p6, ?_⟩
      have hFd : F ≠ d := fun z => by rw [z, hd] at p4; cases p4
      refine ⟨_, rfl, q _ F t (unlock hd p5) p4 (by rw [upd_ne hFd]; exact p1) (p2.mono (Nat.le_refl _) ?_) p3⟩
      have := hv.ln
      omega
end
end Fp

set_option Elab.async false
set_option linter.all false
set_option maxRecDepth 100000
set_option maxHeartbeats 8000000
namespace Fp
open PySem PySem.Spec PyProof.Rows L2
theorem merge_kvr' : ∀ (rs acc : List (Nat × Addr)), (rs.map (·.1)).Nodup → (∀ e ∈ rs, e.1 ∉ acc.map (·.1)) → mergeK (kvr acc) (kvr rs) = kvr (acc ++ rs)
  | [], acc, _, _ => by
    rw [List.append_nil]
    rfl
  | e :: r, acc, h, hd => by
    obtain ⟨h1, h2⟩ := List.nodup_cons.mp (show (e.1 :: r.map (·.1)).Nodup from h)
    have q : mergeK (kvr acc) (kvr (e :: r)) = mergeK (putK (kvr acc) (Sum.inr (⟨#[e.1]⟩ : Str) : Key) (.ref e.2)) (kvr r) := rfl
    rw [q, kvr_put (hd e List.mem_cons_self), merge_kvr' r (acc ++ [(e.1, e.2)]) h2 fun y hy => ?_]
    · rw [List.append_assoc]
      rfl
    · rw [List.map_append, List.mem_append]
      rintro (z | z)
      · exact hd y (List.mem_cons_of_mem _ hy) z
      · have : y.1 = e.1 := by simpa using z
        exact h1 (this ▸ List.mem_map.mpr ⟨y, hy, rfl⟩)
theorem merge_kvr {rs : List (Nat × Addr)} (h : (rs.map (·.1)).Nodup) : mergeK [] (kvr rs) = kvr rs := merge_kvr' rs [] h fun _ _ z => by cases z
def lets : List Nat := [120, 121, 122]
theorem lets_nd : lets.Nodup := by decide
theorem lets_xyz : ("xyz" : Str).cps.toList = lets := by decide +kernel
theorem yS : ("y" : Str) = ⟨#[121]⟩ := by decide +kernel
def PTr (H : Hp) (p : Addr) (e : Nat × Addr) : Prop := H p = some (.tup [.str ⟨#[e.1]⟩, .ref e.2])
theorem ptr_snoc {H : Hp} {D t : Addr} {ps : List Addr} {rs : List (Nat × Addr)} {e : Nat × Addr} (hD : H D = some (.lst (ps.map V.ref))) (hp : Paired (PTr H) ps rs) (ht : H t = none) :
    Paired (PTr (upd (upd H t (.tup [.str ⟨#[e.1]⟩, .ref e.2])) D (.lst (ps.map V.ref ++ [.ref t])))) (ps ++ [t]) (rs ++ [e]) := by
  have st := same_upd (o := .tup [.str ⟨#[e.1]⟩, .ref e.2]) ht
  refine Paired.snoc (Paired.mapP hp fun y q z => ?_) ?_
  · show (upd _ D _) y = _
    rw [upd_ne (ne_of (st _ _ z) (st _ _ hD) (by intro y; cases y))]
    exact st _ _ z
  · show (upd _ D _) t = _
    rw [upd_ne (ne_of_none hD ht).symm]
    exact upd_same
theorem ptr_same {H H' : Hp} {ps : List Addr} {rs : List (Nat × Addr)} (hp : Paired (PTr H) ps rs) (s : Same H H') : Paired (PTr H') ps rs := Paired.mapP hp fun y q z => s _ _ z
theorem ptr_but {H H' : Hp} {h : Addr} {xs : List V} {ps : List Addr} {rs : List (Nat × Addr)} (hp : Paired (PTr H) ps rs) (k : But h H H') (hh : H h = some (.lst xs)) : Paired (PTr H') ps rs :=
  Paired.mapP hp fun y q z => k _ _ z (ne_of z hh (by intro w; cases w))
theorem ptr_kvr {K : PySem.W.Frag} {H : Hp} {ps : List Addr} {rs : List (Nat × Addr)} (h : Paired (PTr H) ps rs) : Paired (fun p (x : Key × V) => SqT K H p [kV x.1, x.2]) ps (kvr rs) := by
  induction h with
  | nil => exact .nil
  | cons e _ ih => exact .cons (.inl (.inl e)) ih
theorem BagAt.butF {K : PySem.W.Frag} {d : Addr} {H H' : Hp} {b : Addr} {c : Int} {L : Tb} {o : Obj} {kvs : List (Key × V)} (h : BagAt K H b c L) (hd : H d = some (.frz o (.dK kvs))) (k : But d H H') : BagAt K H' b c L := by
  obtain ⟨dx, t, f1, f2⟩ := h
  obtain ⟨ps, o', g1, g2⟩ := id f2
  exact ⟨dx, t, k _ _ f1 (ne_of f1 hd (by intro z; cases z)), f2.but k (ne_of g1 hd (by intro z; cases z)) fun ys => by rw [hd]; intro z; cases z⟩
structure Z4 (K : PySem.W.Frag) (ca h dw dn b1 b2 : Addr) (c : Int) (l lo : Tb) (H : Hp) : Prop where
  hh : HandAt ca H h
  ew : H dw = some (.dK (kv l))
  eo : H dn = some (.dK (kv lo))
  g1 : Bg K H b1 c 4 6 l
  g2 : Bg K H b2 c 2 3 lo
theorem Z4.same {K : PySem.W.Frag} {ca h dw dn b1 b2 : Addr} {c : Int} {l lo : Tb} {H H' : Hp} (z : Z4 K ca h dw dn b1 b2 c l lo H) (s : Same H H') : Z4 K ca h dw dn b1 b2 c l lo H' :=
  ⟨z.hh.same s, s _ _ z.ew, s _ _ z.eo, z.g1.same s, z.g2.same s⟩
theorem Z4.but {K : PySem.W.Frag} {ca h dw dn b1 b2 : Addr} {c : Int} {l lo : Tb} {H H' : Hp} (z : Z4 K ca h dw dn b1 b2 c l lo H) (k : But h H H') (hh : HandAt ca H' h) : Z4 K ca h dw dn b1 b2 c l lo H' :=
  ⟨hh, k _ _ z.ew (z.hh.neD z.ew), k _ _ z.eo (z.hh.neD z.eo), ⟨z.g1.1.but k z.hh.lst, z.g1.2⟩, ⟨z.g2.1.but k z.hh.lst, z.g2.2⟩⟩
theorem lets_at {i : Nat} {ch : Nat} (e : ("xyz" : Str).cps[i]? = some ch) : lets[i]? = some ch := by
  rw [← lets_xyz, Array.getElem?_toList]
  exact e
theorem lets_size : ("xyz" : Str).cps.size = 3 := by decide +kernel
theorem cov_of {c : Int} {m k : Nat} {t : Tb} {bl : List (Nat × Addr)} (v : VT c m k t) (h : bl.map (·.1) = lets) : ∀ p ∈ t, ∀ n ∈ p.1.cps.toList, n ∈ bl.map (·.1) := fun p hp n hn => by
  rw [h]
  rcases (v.wd p hp).1 n hn with rfl | rfl | rfl <;> simp [lets]
theorem lets_lt {n : Nat} (h : n ∈ lets) : n = 120 ∨ n = 121 ∨ n = 122 := by simpa [lets] using h
section
variable {P : Program} {w : World} {K : PySem.W.Frag} {mg : Str → Option Value} {base : Heap}
def spLaw (K : PySem.W.Frag) : Sp := fun vs H Q _ => ∃ (a : Addr) (ns : List Int), vs = [.ref a] ∧ SqL K H a (ns.map V.int) ∧ ∀ H', Q (.bl true) H'
abbrev nLaw : List Str := ["_law_script", "_law_hand_here", "_law_clock_here", "_law_words_here", "_law_other", "_law_bag", "_law_two", "_law_rows", "_law_bags", "_law_told", "_law_same", "_law_few", "_law_word_here", "_law_letter"]
theorem sc_law : FnScope nLaw ["_law_script"] (defScope s_law) := ⟨rfl, rfl, rfl, by decide +kernel, rfl, by decide +kernel, by decide +kernel⟩
theorem ok_law (T : Top K mg) {fd : FuncData} (F : FnP K "law" "law" s_law (He.fAd K ("law", none)) fd) : FnOk P w K mg base CX0 12 (He.ga K "law") fd ["_law_script"] (spLaw K) := by
  refine F.ok sc_law (fun vs H Q E h => ?_) (fun cdv A outer s H vs Q E hr h => ?_)
  · obtain ⟨a, ns, rfl, _⟩ := h
    rfl
  · obtain ⟨a, ns, rfl, hS, q⟩ := h
    have nd := sc_law.nd
    have hu := hu_of hr
    have hs : sizeLine = 16777216 := sizeLine_eq
    have hr1 : Room 1 _ := hr.mono (by decide)
    have hr2 : Room 2 _ := hr.mono (by decide)
    have hr3 : Room 3 _ := hr.mono (by decide)
    have hr4 : Room 4 _ := hr.mono (by decide)
    have hr6 : Room 6 _ := hr.mono (by decide)
    have hr8 : Room 8 _ := hr.mono (by decide)
    refine ⟨_, PSs.nox (pss_cons (ps_set (i := 1) nd rfl (Or.inr rfl) (pc (ok_hand T) hr1 (pa_cons (pv 0) pa_nil)))
      (pss_cons (ps_set (i := 2) nd rfl (Or.inr rfl) (pc (ok_ck T) hr2 (pa_cons (pv 1) pa_nil)))
      (pss_cons (ps_set (i := 3) nd rfl (Or.inr rfl) (pc (ok_lot T) hr4 (pa_cons (pv 1) (pa_cons (pv 2) (pa_cons pe_str (pa_cons pe_int (pa_cons pe_int pa_nil)))))))
      (pss_cons (ps_set (i := 4) nd rfl (Or.inl rfl) (pc (ok_small T) hr2 (pa_cons (pv 1) (pa_cons (pv 2) pa_nil))))
      (pss_cons (ps_set (i := 5) nd rfl (Or.inl rfl) (pbag T hr6 (pa_cons (pv 2) (pa_cons (pv 3) pa_nil))))
      (pss_cons (ps_set (i := 6) nd rfl (Or.inl rfl) (pbag T hr6 (pa_cons (pv 2) (pa_cons (pv 4) pa_nil))))
      (pss_cons (ps_if (pt_not (pt_val (pc (ok_is T) hr4 (pa_cons (pc (ok_mirrored T) hr8 (pa_cons (pv 5) pa_nil)) (pa_cons (pv 2) (pa_cons (pe_callTy (call_dictP rfl) (by rfl) (f_dict T) (by decide +kernel) (pa_cons (pe_lock (pe_lc (te := (tTup (tCons (tRevS (tVar 12)) (tCons (tDGet (tVar 3) (tVar 12)) tNil)))) (own := [("_law_word_here", 12)]) (g := gName 12) (tt := tYes) rfl nd (pi_keys (pv 3)) (blkOk_by (N := nLaw) (sc := defScope s_law) (by decide +kernel)) (fun _ _ _ _ _ => pg_name (i := 12) nd rfl (Or.inl rfl)) (fun _ _ _ _ _ => by exact pts_nil) (fun _ _ _ _ _ => by exact (pe_tup (pa_cons (pe_revS (pv 12)) (pa_cons (pe_dget hu (pv 3) (pv 12) (fun _ _ => rfl)) pa_nil)))))) pa_nil)) pa_nil)))))) (pss_one (ps_ret pe_bl)) pss_nil)
      (pss_cons (ps_if (PW.pt (pw_or (pt_cmpR (opNe T hr2) (pc (ok_mirrored T) hr8 (pa_cons (pc (ok_mirrored T) hr8 (pa_cons (pv 5) pa_nil)) pa_nil)) (pv 5) (nomark _)) (pw_or1 (pt_cmpR (opNe T hr2) (pc (ok_mirrored T) hr8 (pa_cons (pcL (ok_behind T) hr8 (pa_cons (pv 5) (pa_cons (pv 6) pa_nil))) pa_nil)) (pcL (ok_behind T) hr8 (pa_cons (pc (ok_mirrored T) hr8 (pa_cons (pv 6) pa_nil)) (pa_cons (pc (ok_mirrored T) hr8 (pa_cons (pv 5) pa_nil)) pa_nil))) (nomark _))))) (pss_one (ps_ret pe_bl)) pss_nil)
      (pss_cons (ps_set (i := 7) nd rfl (Or.inr rfl) (pe_callTy (call_dictP rfl) (by rfl) (f_dict T) (by decide +kernel) (pa_cons (pe_lc (te := (tTup (tCons (tVar 13) (tCons (tCall spSmall [] E0 (tCons (tVar 1) (tCons (tVar 2) tNil))) tNil)))) (own := [("_law_letter", 13)]) (g := gName 13) (tt := tYes) rfl nd (pi_str pe_str) (blkOk_by (N := nLaw) (sc := defScope s_law) (by decide +kernel)) (fun _ _ _ _ _ => pg_name (i := 13) nd rfl (Or.inl rfl)) (fun _ _ _ _ _ => by exact pts_nil) (fun _ _ _ _ _ => by exact (pe_tup (pa_cons (pv 13) (pa_cons (pc (t := tCons (tVar 1) (tCons (tVar 2) tNil)) (ok_small T) hr2 (pa_cons (pv 1) (pa_cons (pv 2) pa_nil))) pa_nil))))) pa_nil)))
      (pss_cons (ps_if (pt_cmpR op_eq (pc (ok_draw T) hr1 (pa_cons (pv 1) (pa_cons pe_int pa_nil))) pe_int (nomark _)) (pss_one (ps_dput hu (pv 7) pe_str pe_dnewK rfl)) pss_nil)
      (pss_cons (ps_set (i := 8) nd rfl (Or.inr rfl) (pe_callTy (call_dictP rfl) (by rfl) (f_dict T) (by decide +kernel) (pa_cons (pe_lock (pe_lc (te := (tTup (tCons (tVar 13) (tCons (tMake (He.ga K "Bag") (spInit K) [] E0 (tCons (tVar 2) (tCons (tDGet (tVar 7) (tVar 13)) tNil))) tNil)))) (own := [("_law_letter", 13)]) (g := gName 13) (tt := tYes) rfl nd (pi_keys (pv 7)) (blkOk_by (N := nLaw) (sc := defScope s_law) (by decide +kernel)) (fun _ _ _ _ _ => pg_name (i := 13) nd rfl (Or.inl rfl)) (fun _ _ _ _ _ => by exact pts_nil) (fun _ _ _ _ _ => by exact (pe_tup (pa_cons (pv 13) (pa_cons (pbag (t := tCons (tVar 2) (tCons (tDGet (tVar 7) (tVar 13)) tNil)) T hr6 (pa_cons (pv 2) (pa_cons (pe_dget hu (pv 7) (pv 13) (fun _ _ => rfl)) pa_nil))) pa_nil)))))) pa_nil)))
      (pss_cons (ps_set (i := 9) nd rfl (Or.inl rfl) (pc (ok_replaced T) hr8 (pa_cons (pv 5) (pa_cons (pv 8) pa_nil))))
      (pss_cons (ps_if (pt_not (pt_val (pc (ok_is T) hr4 (pa_cons (pv 9) (pa_cons (pv 2) (pa_cons (pc (ok_lrep T) hr3 (pa_cons (pv 2) (pa_cons (pv 3) (pa_cons (pv 7) pa_nil)))) pa_nil)))))) (pss_one (ps_ret pe_bl)) pss_nil)
      (pss_cons (ps_if (pt_cmpR (opNe T hr2) (pc (ok_replaced T) hr8 (pa_cons (pcL (ok_together T) hr8 (pa_cons (pv 5) (pa_cons (pv 6) pa_nil))) (pa_cons (pv 8) pa_nil))) (pcL (ok_together T) hr8 (pa_cons (pv 9) (pa_cons (pc (ok_replaced T) hr8 (pa_cons (pv 6) (pa_cons (pv 8) pa_nil))) pa_nil))) (nomark _)) (pss_one (ps_ret pe_bl)) pss_nil)
      (pss_cons (ps_if (pt_cmpR (opNe T hr2) (pc (ok_replaced T) hr8 (pa_cons (pcL (ok_behind T) hr8 (pa_cons (pv 6) (pa_cons (pv 5) pa_nil))) (pa_cons (pv 8) pa_nil))) (pcL (ok_behind T) hr8 (pa_cons (pc (ok_replaced T) hr8 (pa_cons (pv 6) (pa_cons (pv 8) pa_nil))) (pa_cons (pv 9) pa_nil))) (nomark _)) (pss_one (ps_ret pe_bl)) pss_nil)
      (pss_cons (ps_set (i := 10) nd rfl (Or.inl rfl) (pe_callTy (call_dictP rfl) (by rfl) (f_dict T) (by decide +kernel) (pa_cons (pe_lc (te := (tTup (tCons (tVar 13) (tCons (tMake (He.ga K "Bag") (spInit K) [] E0 (tCons (tVar 2) (tCons (tDisp [(tVar 13, tC (.int 1))]) tNil))) tNil)))) (own := [("_law_letter", 13)]) (g := gName 13) (tt := tYes) rfl nd (pi_str pe_str) (blkOk_by (N := nLaw) (sc := defScope s_law) (by decide +kernel)) (fun _ _ _ _ _ => pg_name (i := 13) nd rfl (Or.inl rfl)) (fun _ _ _ _ _ => by exact pts_nil) (fun _ _ _ _ _ => by exact (pe_tup (pa_cons (pv 13) (pa_cons (pbag (t := tCons (tVar 2) (tCons (tDisp [(tVar 13, tC (.int 1))]) tNil)) T hr6 (pa_cons (pv 2) (pa_cons (pe_disp (pps_cons (pv 13) pe_int pps_nil) (by rfl) (by rfl) (fun z => by cases z) (by decide)) pa_nil))) pa_nil))))) pa_nil)))
      (pss_cons (ps_set (i := 11) nd rfl (Or.inl rfl) (pe_callTy (call_dictP rfl) (by rfl) (f_dict T) (by decide +kernel) (pa_cons (pe_lc (te := (tTup (tCons (tVar 13) (tCons (tDGet (tVar 8) (tVar 13)) tNil)))) (own := [("_law_letter", 13)]) (g := gName 13) (tt := tB (tCB (rAny K) (tCons (tLockE (tLc (iKeys (tVar 3)) (gName 12) tYes (tOp rSign (tVar 13) (tVar 12)) [12])) tNil))) rfl nd (pi_str pe_str) (blkOk_by (N := nLaw) (sc := defScope s_law) (by decide +kernel)) (fun _ _ _ _ _ => pg_name (i := 13) nd rfl (Or.inr rfl)) (fun _ _ _ _ _ => by exact (pts_one (pt_val (pe_callB (cr_any rfl) (by rfl) (f_any T) (by decide +kernel) (pa_cons (pe_lock (pe_lc (wi := iKeys (tVar 3)) (te := tOp rSign (tVar 13) (tVar 12)) (own := [("_law_word_here", 12)]) (g := gName 12) (tt := tYes) rfl nd (pi_keys (pv 3)) (blkOk_by (N := nLaw) (by rfl)) (fun _ _ _ _ _ => pg_name (i := 12) nd rfl (Or.inl rfl)) (fun _ _ _ _ _ => pts_nil) (fun _ _ _ _ _ => pe_cmpR op_in_sign (pv 13) (pv 12) (by rfl)))) pa_nil))))) (fun _ _ _ _ _ => by exact (pe_tup (pa_cons (pv 13) (pa_cons (pe_dget hu (pv 8) (pv 13) (fun _ _ => rfl)) pa_nil))))) pa_nil)))
      (pss_one (ps_ret (pe_and (pe_cmpR (opEq T hr1) (pc (ok_replaced T) hr8 (pa_cons (pv 5) (pa_cons (pv 10) pa_nil))) (pv 5) (nomark _)) (pe_and (pe_cmpR (opEq T hr1) (pc (ok_replaced T) hr8 (pa_cons (pv 5) (pa_cons (pv 11) pa_nil))) (pv 9) (nomark _)) (pe_one (pe_cmpR (op_eqP hr.units) (pe_fld (pv 5) rfl) (pc (ok_words T) hr3 (pa_cons (pv 3) pa_nil)) (nomark _)))))))))))))))))))))))), ?_⟩
    refine ⟨_, rfl, a, ns, rfl, hS, fun H1 h ca s1 nh hh1 => ?_⟩
    refine ⟨_, rfl, h, ca, rfl, hh1, fun H2 c hh2 k2 hc => ?_⟩
    obtain ⟨hc2, hc7⟩ := ck_range hc
    have hc0 : 0 < c := by omega
    refine ⟨_, rfl, _, rfl, h, ca, c, "xyz", 4, 6, rfl, hh2, hc2, hc7, by decide +kernel, by decide +kernel, by decide +kernel, by decide, by decide, fun H3 dw l hh3 k3 n3 e3 vl => ?_⟩
    refine ⟨_, rfl, _, rfl, h, ca, c, rfl, hh3, hc2, hc7, fun H4 dn lo hh4 k4 n4 e4 vo => ?_⟩
    replace e3 := k4 _ _ e3 (hh3.neD e3)
    refine ⟨_, rfl, _, rfl, fun b1 dx hb hdx ne => ?_⟩
    refine ⟨b1, dw, dx, c, l, rfl, upd_same, hc, made_dict e3 hb hdx, vl.mono (by decide) (by decide), fun H5 k5 hb5 => ⟨rfl, ?_⟩⟩
    have s5 := made_same k5 hb hdx
    clear k5 hb hdx ne
    refine ⟨_, rfl, _, rfl, fun b2 dx hb hdx ne => ?_⟩
    refine ⟨b2, dn, dx, c, lo, rfl, upd_same, hc, made_dict (s5 _ _ e4) hb hdx, vo.mono (by decide) (by decide), fun H6 k6 hb6 => ⟨rfl, ?_⟩⟩
    have s6 := made_same k6 hb hdx
    have z : Z4 K ca h dw dn b1 b2 c l lo H6 := ⟨(hh4.same s5).same s6, s6 _ _ (s5 _ _ e3), s6 _ _ (s5 _ _ e4), ⟨hb5.same s6, vl⟩, ⟨hb6, vo⟩⟩
    clear k6 hb hdx ne hb5 hb6 s5 s6 hh1 hh2 hh3 hh4 k2 k3 k4 n3 n4 e3 e4
    -- told backward
    refine ⟨_, rfl, b1, c, 4, 6, l, rfl, z.g1, hc, by decide, by decide, fun H7 r7 t7 s7 n7 g7 k7 => ?_⟩
    replace z := z.same s7
    refine ⟨_, rfl, ?_⟩
    refine ⟨dw, _, z.ew, trivial, fun od => ?_⟩
    refine ⟨_, rfl, dw, od, rfl, .inl ⟨_, upd_same, fun D hD => ?_⟩⟩
    have nD : D ≠ dw := fun e => by
      rw [e, upd_same] at hD
      cases hD
    have hD0 : H7 D = none := by
      rw [upd_ne nD] at hD
      exact hD
    have hll := vl.ln
    refine lc_it walk_keys (fun i H' => ∃ ps : List Addr, H' D = some (.lst (ps.map V.ref)) ∧ Paired (fun p (q : Str × Int) => H' p = some (.tup [.str q.1, .int q.2])) ps (revT (l.take i)) ∧ But dw H7 H' ∧ H' dw = some (.frz od (.dK (kv l))))
      ⟨[], upd_same, .nil, (fun b' o y n' => by
        rw [upd_ne (ne_of_none y hD0), upd_ne n']
        exact y), (by
        rw [upd_ne nD.symm]
        exact upd_same)⟩ (fun i H' _ hP => hP.choose_spec.2.2.2) ?_ ?_
    · rintro j x Ha Hb hj ⟨ps, r1, r2, r3, r4⟩ ⟨rfl, kk, vv, ee, rfl⟩
      obtain ⟨p', ep, rfl, rfl⟩ := kv_at ee
      have hp := List.mem_of_getElem? ep
      have hpl := (vl.wd p' hp).2
      rw [kv_len] at hj
      refine ⟨rfl, ?_⟩
      refine ⟨_, rfl, p'.1, rfl, by omega, _, rfl, _, rfl, dw, .int p'.2, rfl, .inl ⟨kv l, Sum.inr p'.1, .inr ⟨od, r4⟩, rfl, ?_⟩, ?_⟩
      · rw [valV_yes (has_of ep), num_of vl.nd ep]
      refine ⟨by show 2 ≤ sizeLine; omega, fun t ht => ?_⟩
      have st := same_upd (o := .tup [.str (revS p'.1), .int p'.2]) ht
      have eD7 := st _ _ r1
      have hlen := r2.length
      have hlt : (revT (l.take j)).length ≤ j := by
        unfold revT
        rw [List.length_map, List.length_take]
        omega
      refine ⟨_, eD7, by rw [List.length_map]; omega, ps ++ [t], by rw [upd_same, List.map_append]; rfl, ?_, ?_, ?_⟩
      · rw [revT_take ep]
        refine Paired.snoc (Paired.mapP r2 fun y q e => ?_) ?_
        · rw [upd_ne (ne_of (st _ _ e) eD7 (by intro y; cases y))]
          exact st _ _ e
        · rw [upd_ne (ne_of_none r1 ht).symm]
          exact upd_same
      · intro b' o y n'
        rw [upd_ne (ne_of_none y hD0)]
        exact st _ _ (r3 b' o y n')
      · rw [upd_ne nD.symm]
        exact st _ _ r4
    rintro Gc ⟨ps, r1, r2, r3, r4⟩
    rw [kv_len, List.take_length] at r2
    have sb := unlock z.ew r3
    refine ⟨r4, D, ps, kv (revT l), rfl, SqL.of (by rw [upd_ne nD]; exact r1), pairs_kv (Paired.mapP r2 fun y q e => ?_), fun u nu => ?_⟩
    · rw [upd_ne (fun y' => by rw [y', r4] at e; cases e)]
      exact e
    have vr := vt_rev vl
    have su := sb.trans (same_upd (o := .dK (mergeK [] (kv (revT l)))) nu)
    rw [merge_kv vr.nd] at su ⊢
    have eu : (upd (upd Gc dw (.dK (kv l))) u (.dK (kv (revT l)))) u = some (.dK (kv (revT l))) := upd_same
    replace z := z.same su
    replace g7 := g7.same su
    refine ⟨r7, u, c, revT l, rfl, ?_, eu, vr.nd, fun p hp => Nat.le_trans (vr.wd p hp).2 (by decide), Nat.le_trans vr.ln (by decide), fun H8 s8 => ⟨true, rfl, iteF ?_⟩⟩
    · rw [← lk_same hc0 g7.2 vr k7]
      exact g7.1
    replace z := z.same s8
    clear g7 k7 s7 n7 eu su sb r1 r2 r3 r4 nu nD hD hD0 s8
    -- twice
    refine ⟨_, rfl, b1, c, 4, 6, l, rfl, z.g1, hc, by decide, by decide, fun H9 r9 t9 s9 n9 g9 k9 => ?_⟩
    refine ⟨r9, c, 4, 6, t9, rfl, g9, hc, by decide, by decide, fun H10 r10 t10 s10 n10 g10 k10 => ?_⟩
    replace z := (z.same s9).same s10
    refine ⟨_, rfl, rd_ne T g10.1 z.g1.1 ?_⟩
    have A10 : Lk c t10 l := by
      have := k10.trans (Lk.rev k9)
      rw [revT_revT] at this
      exact this
    rw [decide_eq_true (show c = c ∧ canon t10 = canon l from ⟨rfl, lk_same hc0 g10.2 vl A10⟩)]
    refine ⟨false, rfl, iteF ?_⟩
    clear g9 g10 k9 k10 s9 s10 n9 n10 A10
    refine ⟨_, rfl, _, rfl, b1, b2, c, c, 4, 6, 2, 3, l, lo, rfl, z.g1, z.g2, hc, by decide, by decide, by decide, fun _ H9 r9 t9 s9 n9 g9 k9 => ?_, fun y => absurd rfl y⟩
    refine ⟨r9, c, _, _, t9, rfl, g9, hc, by decide, by decide, fun H10 r10 t10 s10 n10 g10 k10 => ?_⟩
    replace z := (z.same s9).same s10
    refine ⟨_, rfl, b2, c, 2, 3, lo, rfl, z.g2, hc, by decide, by decide, fun H11 r11 t11 s11 n11 g11 k11 => ?_⟩
    replace z := z.same s11
    refine ⟨_, rfl, b1, c, 4, 6, l, rfl, z.g1, hc, by decide, by decide, fun H12 r12 t12 s12 n12 g12 k12 => ?_⟩
    replace z := z.same s12
    refine ⟨r11, r12, c, c, 2, 3, 4, 6, t11, t12, rfl, g11.same s12, g12, hc, by decide, by decide, by decide, fun _ H13 r13 t13 s13 n13 g13 k13 => ?_, fun y => absurd rfl y⟩
    replace z := z.same s13
    refine rd_ne T (((g10.same s11).same s12).same s13).1 g13.1 ?_
    have A10 : Lk c t10 (prs (revT lo) (revT l)) := k10.trans ((Lk.rev k9).trans fun x => by rw [revT_prs])
    rw [decide_eq_true (show c = c ∧ canon t10 = canon t13 from ⟨rfl, lk_same hc0 g10.2 g13.2 (A10.trans (k13.trans (Lk.prs k11 k12)).symm)⟩)]
    refine ⟨false, rfl, iteF ?_⟩
    clear g9 g10 g11 g12 g13 k9 k10 k11 k12 k13 s9 s10 s11 s12 s13 n9 n10 n11 n12 n13 A10
    -- tables for letters
    have ew13 := z.ew
    refine ⟨_, rfl, fun D hD => ?_⟩
    have nDh : D ≠ h := fun y => by
      obtain ⟨xs, hx⟩ := z.hh.lst
      exact ne_of_none hx hD y.symm
    have nDc : D ≠ ca := fun y => by
      obtain ⟨xs, hx⟩ := z.hh.cells
      exact ne_of_none hx hD y.symm
    refine lc_it walk_str (fun i H' => ∃ (ps : List Addr) (rs : List (Nat × Addr)), H' D = some (.lst (ps.map V.ref)) ∧ Paired (PTr H') ps rs ∧ rs.map (·.1) = lets.take i ∧ (∀ e ∈ rs, ∃ t, H' e.2 = some (.dK (kv t)) ∧ VT c 2 3 t ∧ H13 e.2 = none) ∧ HandAt ca H' h ∧ But h H13 H')
      ⟨[], [], upd_same, .nil, rfl, fun e he => (by cases he), z.hh.same (same_upd hD), But.of (same_upd hD)⟩ (fun _ _ _ _ => trivial) ?_ ?_
    · rintro i x Ha Hb hi ⟨ps, rs, r1, r2, r3, r4, r5, r6⟩ ⟨rfl, ch, ec, rfl⟩
      rw [lets_size] at hi
      refine ⟨rfl, ?_⟩
      refine ⟨_, rfl, _, rfl, _, rfl, h, ca, c, rfl, r5, hc2, hc7, fun Hc d' l' hh' k' n' e' v' => ?_⟩
      refine ⟨by show 2 ≤ sizeLine; omega, fun t ht => ?_⟩
      have eDc := k' _ _ r1 nDh
      obtain ⟨xs, hx⟩ := r5.lst
      have p2 := ptr_but r2 k' hx
      have hlen := r2.length
      have hrl : rs.length ≤ 3 := by
        have := congrArg List.length r3
        rw [List.length_map, List.length_take] at this
        show rs.length ≤ 3
        omega
      have st := same_upd (o := .tup [.str ⟨#[ch]⟩, .ref d']) ht
      have n13 : H13 d' = none := by
        cases q9 : H13 d' with
        | none => rfl
        | some u9 =>
          by_cases y9 : d' = h
          · exact absurd y9 (hh'.neD e')
          · rw [r6 _ _ q9 y9] at n'
            cases n'
      refine ⟨_, st _ _ eDc, by rw [List.length_map]; omega, ps ++ [t], rs ++ [(ch, d')], by rw [upd_same, List.map_append]; rfl, ptr_snoc (e := (ch, d')) eDc p2 ht, ?_, fun e he => ?_, (hh'.same st).off (d := D) but_upd nDh.symm nDc.symm, fun b o y n9 => ?_⟩
      · rw [List.map_append, r3, List.take_add_one, lets_at ec]
        rfl
      · have dN : ∀ {y : Addr} {kvs : List (Key × V)}, Hc y = some (.dK kvs) → y ≠ D := fun e => ne_of e eDc (by intro z; cases z)
        rcases List.mem_append.mp he with he | he
        · obtain ⟨t0, q1, q2, q3⟩ := r4 e he
          have q4 := k' _ _ q1 (r5.neD q1)
          exact ⟨t0, by rw [upd_ne (dN q4)]; exact st _ _ q4, q2, q3⟩
        · have : e = (ch, d') := by simpa using he
          subst this
          exact ⟨l', by rw [upd_ne (dN e')]; exact st _ _ e', v', n13⟩
      · have q1 := k' _ _ (r6 _ _ y n9) n9
        rw [upd_ne (ne_of_none y hD)]
        exact st _ _ q1
    rintro Ha ⟨ps, rs, r1, r2, r3, r4, r5, r6⟩
    rw [lets_size] at r3
    have r3 : rs.map (·.1) = lets := r3
    replace z := z.but r6 r5
    refine ⟨D, ps, kvr rs, rfl, SqL.of r1, ptr_kvr r2, fun Rw nRw => ?_⟩
    rw [merge_kvr (by rw [r3]; exact lets_nd)]
    have sR := same_upd (o := .dK (kvr rs)) nRw
    replace z := z.same sR
    obtain ⟨⟨m0, x0⟩, ⟨m1, x1⟩, ⟨m2, x2⟩, rfl⟩ : ∃ a b c, rs = [a, b, c] := by
      have hl := congrArg List.length r3
      rw [List.length_map] at hl
      match rs, hl with
      | [a, b, c], _ => exact ⟨a, b, c, rfl⟩
    have r3 : [m0, m1, m2] = [120, 121, 122] := r3
    injection r3 with q0 r3
    injection r3 with q1 r3
    injection r3 with q2 _
    subst q0
    subst q1
    subst q2
    obtain ⟨t0, f0, v0, y0⟩ := r4 (120, x0) (by simp)
    obtain ⟨t1, f1, v1, y1⟩ := r4 (121, x1) (by simp)
    obtain ⟨t2, f2, v2, y2⟩ := r4 (122, x2) (by simp)
    have nn : ∀ {y : Addr}, H13 y = none → y ≠ dw := fun e w => by
      rw [w, ew13] at e
      cases e
    replace y0 := nn y0
    replace y1 := nn y1
    replace y2 := nn y2
    replace f0 := sR _ _ f0
    replace f1 := sR _ _ f1
    replace f2 := sR _ _ f2
    have eRw : (upd Ha Rw (.dK (kvr [(120, x0), (121, x1), (122, x2)]))) Rw = some (.dK (kvr [(120, x0), (121, x1), (122, x2)])) := upd_same
    generalize upd Ha Rw (.dK (kvr [(120, x0), (121, x1), (122, x2)])) = Hb at z f0 f1 f2 eRw ⊢
    clear r1 r2 r4 r5 r6 sR nRw nDh nDc hD nn
    have nwR : Rw ≠ dw := fun y => by
      rw [y, z.ew] at eRw
      injection eRw with e
      injection e with e
      have := congrArg List.length e
      rw [kv_len, kvr_len] at this
      have e0 := congrArg (fun l : List (Key × V) => l.map fun q => q.2) e
      cases l with
      | nil => cases this
      | cons p r =>
        have e0 : V.int p.2 :: _ = V.ref x0 :: _ := e0
        injection e0 with e0
        cases e0
    refine ⟨_, rfl, h, ca, 4, rfl, by decide, by decide, z.hh, fun rd H14 a1 a2 hh14 k14 => ?_⟩
    have nh : ∀ {y : Addr} {kvs : List (Key × V)}, Hb y = some (.dK kvs) → y ≠ h := fun e => z.hh.neD e
    replace f0 := k14 _ _ f0 (nh f0)
    replace f1 := k14 _ _ f1 (nh f1)
    replace f2 := k14 _ _ f2 (nh f2)
    replace eRw := k14 _ _ eRw (nh eRw)
    replace z := z.but k14 hh14
    clear nh
    refine ⟨rfl, _, rfl, ?_⟩
    refine ite2 (fun hz => ?_) (fun hz => ?_)
    case' refine_2 =>
      have zz := z
      have g0 := f0
      have g1 := f1
      have g2 := f2
      have gR := eRw
      have w1 := v1
      have w1n := y1
      generalize x1 = xm at g1 gR w1n
      generalize t1 = tm at g1 w1
      generalize H14 = G at zz g0 g1 g2 gR ⊢
    case' refine_1 =>
      refine fun u nu => ?_
      have su := same_upd (o := .dK []) nu
      have eu := su _ _ eRw
      refine ⟨_, rfl, Rw, _, rfl, DPut.k (k := Sum.inr "y") eu (by rw [kvr_len]; show 3 < sizeLine; omega), ?_⟩
      have epk : putK (kvr [(120, x0), (121, x1), (122, x2)]) (Sum.inr "y" : Key) (.ref u) = kvr [(120, x0), (121, u), (122, x2)] := by
        rw [yS]
        rfl
      rw [epk]
      have nuR : u ≠ Rw := (ne_of_none eRw nu).symm
      have nR2 : ∀ {y : Addr} {t : Tb}, H14 y = some (.dK (kv t)) → y ≠ Rw := fun {y t} e w => by
        rw [w, eRw] at e
        injection e with e
        injection e with e
        have e0 := congrArg (fun l : List (Key × V) => l.map fun q => q.2) e
        cases t with
        | nil => cases e0
        | cons p r =>
          have e0 : V.ref x0 :: _ = V.int p.2 :: _ := e0
          injection e0 with e0
          cases e0
      have kR : But Rw H14 (upd (upd H14 u (.dK [])) Rw (.dK (kvr [(120, x0), (121, u), (122, x2)]))) := fun b o e n => by
        rw [upd_ne n]
        exact su _ _ e
      have zz : Z4 K ca h dw dn b1 b2 c l lo (upd (upd H14 u (.dK [])) Rw (.dK (kvr [(120, x0), (121, u), (122, x2)]))) :=
        ⟨z.hh.but kR (fun xs y => by rw [eRw] at y; cases y), kR _ _ z.ew (nR2 z.ew), kR _ _ z.eo (nR2 z.eo), ⟨z.g1.1.butD eRw kR, z.g1.2⟩, ⟨z.g2.1.butD eRw kR, z.g2.2⟩⟩
      have g0 := kR _ _ f0 (nR2 f0)
      have g1 : (upd (upd H14 u (.dK [])) Rw (.dK (kvr [(120, x0), (121, u), (122, x2)]))) u = some (.dK (kv ([] : Tb))) := by
        rw [upd_ne nuR]
        exact upd_same
      have g2 := kR _ _ f2 (nR2 f2)
      have gR : (upd (upd H14 u (.dK [])) Rw (.dK (kvr [(120, x0), (121, u), (122, x2)]))) Rw = some (.dK (kvr [(120, x0), (121, u), (122, x2)])) := upd_same
      have w1 : VT c 2 3 ([] : Tb) := (vt_nil c 2).mono (Nat.le_refl _) (by decide)
      have w1n : u ≠ dw := (ne_of_none z.ew nu).symm
      generalize upd (upd H14 u (.dK [])) Rw (.dK (kvr [(120, x0), (121, u), (122, x2)])) = G at zz g0 g1 g2 gR ⊢
      clear eu epk nuR nR2 kR su nu
      generalize u = xm at g1 gR w1n
      generalize ([] : Tb) = tm at g1 w1
    all_goals
      let f : Nat → Tb := fun n => if n = 120 then t0 else if n = 121 then tm else t2
      have hrs : ∀ e ∈ ([(120, x0), (121, xm), (122, x2)] : List (Nat × Addr)), G e.2 = some (.dK (kv (f e.1))) ∧ VT c 2 3 (f e.1) ∧ e.2 ≠ dw := fun e he => by
        simp only [List.mem_cons, List.not_mem_nil, or_false] at he
        rcases he with rfl | rfl | rfl
        · exact ⟨g0, v0, y0⟩
        · exact ⟨g1, w1, w1n⟩
        · exact ⟨g2, v2, y2⟩
      clear_value f
      have hrk : ([(120, x0), (121, xm), (122, x2)] : List (Nat × Addr)).map (·.1) = lets := rfl
      have hrl : ([(120, x0), (121, xm), (122, x2)] : List (Nat × Addr)).length = 3 := rfl
      generalize ([(120, x0), (121, xm), (122, x2)] : List (Nat × Addr)) = rs at gR hrs hrk hrl
      clear g0 g1 g2 w1 w1n z f0 f1 f2 eRw v0 v1 v2 y0 y1 y2
      have rnd : (rs.map (·.1)).Nodup := by rw [hrk]; exact lets_nd
      -- their bags
      refine ⟨Rw, _, gR, trivial, fun od => ?_⟩
      refine ⟨_, rfl, Rw, od, rfl, .inl ⟨_, upd_same, fun D hD => ?_⟩⟩
      have nD : D ≠ Rw := fun e => by
        rw [e, upd_same] at hD
        cases hD
      have hD0 : G D = none := by
        rw [upd_ne nD] at hD
        exact hD
      refine lc_it walk_keys (fun i H' => ∃ (ps : List Addr) (bl : List (Nat × Addr)), H' D = some (.lst (ps.map V.ref)) ∧ Paired (PTr H') ps bl ∧ bl.map (·.1) = (rs.take i).map (·.1) ∧ (∀ e ∈ bl, Bg K H' e.2 c 2 3 (f e.1)) ∧ But Rw G H' ∧ H' Rw = some (.frz od (.dK (kvr rs))))
        ⟨[], [], upd_same, .nil, rfl, (fun e he => by cases he), (fun b' o y n' => by
          rw [upd_ne (ne_of_none y hD0), upd_ne n']
          exact y), (by
          rw [upd_ne nD.symm]
          exact upd_same)⟩ (fun i H' _ hP => hP.choose_spec.choose_spec.2.2.2.2.2) ?_ ?_
      · rintro j x Hc Hd hj ⟨ps, bl, r1, r2, r3, r4, r5, r6⟩ ⟨rfl, kk, vv, ee, rfl⟩
        obtain ⟨e0, ep, rfl, rfl⟩ := kvr_at ee
        have he0 := List.mem_of_getElem? ep
        obtain ⟨p1, p2, p3⟩ := hrs e0 he0
        rw [kvr_len] at hj
        have p4 : e0.2 ≠ Rw := fun w => by
          rw [w, gR] at p1
          injection p1 with e
          injection e with e
          have e1 := congrArg (fun l : List (Key × V) => l.map fun q => q.2) e
          cases rs with
          | nil => cases he0
          | cons e9 r9 =>
            generalize f e0.1 = tt9 at e1
            cases tt9 with
            | nil => cases e1
            | cons p r =>
              have e1 : V.ref e9.2 :: _ = V.int p.2 :: _ := e1
              injection e1 with e1
              cases e1
        have p5 := r5 _ _ p1 p4
        refine ⟨rfl, ?_⟩
        refine ⟨_, rfl, _, rfl, _, rfl, _, rfl, Rw, .ref e0.2, rfl, .inl ⟨kvr rs, Sum.inr (⟨#[e0.1]⟩ : Str), .inr ⟨od, r6⟩, rfl, ?_⟩, ?_⟩
        · rw [kvr_val rnd he0]
        refine fun b dx hb hdx ne => ?_
        refine ⟨b, e0.2, dx, c, f e0.1, rfl, upd_same, hc, made_dict p5 hb hdx, p2.mono (by decide) (by decide), fun He k7 hb7 => ⟨rfl, by show 2 ≤ sizeLine; omega, fun t ht => ?_⟩⟩
        have s7 := made_same k7 hb hdx
        have eDe := s7 _ _ r1
        have st := same_upd (o := .tup [.str ⟨#[e0.1]⟩, .ref b]) ht
        have hlen := r2.length
        have hbl : bl.length ≤ 3 := by
          have := congrArg List.length r3
          rw [List.length_map, List.length_map, List.length_take] at this
          show bl.length ≤ 3
          omega
        refine ⟨_, st _ _ eDe, by rw [List.length_map]; omega, ps ++ [t], bl ++ [(e0.1, b)], by rw [upd_same, List.map_append]; rfl, ptr_snoc (e := (e0.1, b)) eDe (ptr_same r2 s7) ht, ?_, fun e he => ?_, fun b' o y n' => ?_, ?_⟩
        · rw [List.map_append, r3, List.take_add_one, ep, List.map_append]
          rfl
        · rcases List.mem_append.mp he with he | he
          · have q9 := (r4 e he).same (s7.trans st)
            exact ⟨q9.1.but (a := D) but_upd ⟨_, st _ _ eDe⟩, q9.2⟩
          · have : e = (e0.1, b) := by simpa using he
            subst this
            exact ⟨(hb7.same st).but (a := D) but_upd ⟨_, st _ _ eDe⟩, p2⟩
        · rw [upd_ne (ne_of_none y hD0)]
          exact st _ _ (s7 _ _ (r5 b' o y n'))
        · rw [upd_ne nD.symm]
          exact st _ _ (s7 _ _ r6)
      rintro Hc ⟨ps, bl, r1, r2, r3, r4, r5, r6⟩
      rw [kvr_len, List.take_length, hrk] at r3
      have sb := unlock gR r5
      have kb : But Rw Hc (upd Hc Rw (.dK (kvr rs))) := but_upd
      refine ⟨r6, D, ps, kvr bl, rfl, SqL.of (by rw [upd_ne nD]; exact r1), ptr_kvr (Paired.mapP r2 fun y q e => kb _ _ e (fun w => by
        have e9 : Hc y = _ := e
        rw [w, r6] at e9
        cases e9)), fun BG nBG => ?_⟩
      have bnd : (bl.map (·.1)).Nodup := by rw [r3]; exact lets_nd
      rw [merge_kvr bnd]
      have sBG := same_upd (o := .dK (kvr bl)) nBG
      have eBG : (upd (upd Hc Rw (.dK (kvr rs))) BG (.dK (kvr bl))) BG = some (.dK (kvr bl)) := upd_same
      have hbg : ∀ e ∈ bl, Bg K (upd (upd Hc Rw (.dK (kvr rs))) BG (.dK (kvr bl))) e.2 c 2 3 (f e.1) := fun e he => ⟨((r4 e he).1.butF r6 kb).same sBG, (r4 e he).2⟩
      replace zz := (zz.same sb).same sBG
      replace gR := sBG _ _ (sb _ _ gR)
      replace hrs := fun e he => (show _ ∧ _ ∧ _ from ⟨sBG _ _ (sb _ _ (hrs e he).1), (hrs e he).2⟩)
      have blt : ∀ e ∈ bl, e.1 = 120 ∨ e.1 = 121 ∨ e.1 = 122 := fun e he => lets_lt (by rw [← r3]; exact List.mem_map.mpr ⟨e, he, rfl⟩)
      have bln : bl.length ≤ 3 := by
        have := congrArg List.length r3
        rw [List.length_map] at this
        exact Nat.le_of_eq this
      generalize upd (upd Hc Rw (.dK (kvr rs))) BG (.dK (kvr bl)) = G1 at zz gR hrs eBG hbg ⊢
      clear r1 r2 r4 r5 r6 sb kb nBG sBG hD hD0 nD
      -- replaced
      refine ⟨_, rfl, _, rfl, b1, BG, c, 4, 6, l, f, bl, rfl, zz.g1, hc, by decide, by decide, eBG, bnd, blt, hbg, bln, cov_of vl r3, fun G2 tol tt s2 n2 gT kT => ?_⟩
      have sm : ∀ {G' : Hp}, Same G1 G' → Z4 K ca h dw dn b1 b2 c l lo G' ∧ G' BG = some (.dK (kvr bl)) ∧ (∀ e ∈ bl, Bg K G' e.2 c 2 3 (f e.1)) := fun s9 => ⟨zz.same s9, s9 _ _ eBG, fun e he => (hbg e he).same s9⟩
      -- as the law puts them
      refine ⟨_, rfl, _, rfl, _, rfl, _, rfl, _, rfl, c, dw, Rw, l, f, rs, rfl, hc2, hc7, (sm s2).1.ew, vl, s2 _ _ gR, nwR, rnd, fun e he => ⟨s2 _ _ (hrs e he).1, (hrs e he).2⟩, cov_of vl hrk, fun G3 DD t3 s3 n3 e3 v3 k3 => ?_⟩
      replace gT := gT.same s3
      refine ⟨tol, DD, c, t3, rfl, ?_, e3, v3.nd, fun p hp => Nat.le_trans (v3.wd p hp).2 (by decide), Nat.le_trans v3.ln (by decide), fun G4 s4 => ⟨true, rfl, iteF ?_⟩⟩
      · rw [lk_same hc0 v3 gT.2 (k3.trans kT.symm)]
        exact gT.1
      replace gT := gT.same s4
      have S4 := (s2.trans s3).trans s4
      clear s2 s3 s4 n2 n3 e3 v3 k3
      have lw : ∀ {m k : Nat} {t : Tb} {G' : Hp} {r : Addr}, Bg K G' r c m k t → ∀ p ∈ t, ∀ n ∈ p.1.cps.toList, n ∈ bl.map (·.1) := fun g => cov_of g.2 r3
      -- of sums
      obtain ⟨zz4, eB4, hb4⟩ := sm S4
      refine ⟨_, rfl, _, rfl, b1, b2, c, c, 4, 6, 2, 3, l, lo, rfl, zz4.g1, zz4.g2, hc, by decide, by decide, by decide, fun _ G5 r5 t5 s5 n5 g5 k5 => ?_, fun y => absurd rfl y⟩
      have S5 := S4.trans s5
      obtain ⟨zz5, eB5, hb5⟩ := sm S5
      refine ⟨_, rfl, r5, BG, c, _, _, t5, f, bl, rfl, g5, hc, by decide, by decide, eB5, bnd, blt, hb5, bln, lw g5, fun G6 r6 t6 s6 n6 g6 k6 => ?_⟩
      have S6 := S5.trans s6
      obtain ⟨zz6, eB6, hb6⟩ := sm S6
      refine ⟨_, rfl, _, rfl, _, rfl, b2, BG, c, 2, 3, lo, f, bl, rfl, zz6.g2, hc, by decide, by decide, eB6, bnd, blt, hb6, bln, lw zz6.g2, fun G7 r7 t7 s7 n7 g7 k7 => ?_⟩
      have S7 := S6.trans s7
      refine ⟨tol, r7, c, c, _, _, _, _, tt, t7, rfl, ((gT.same s5).same s6).same s7, g7, hc, by decide, by decide, by decide, fun _ G8 r8 t8 s8 n8 g8 k8 => ?_, fun y => absurd rfl y⟩
      have S8 := S7.trans s8
      refine rd_ne T ((g6.same s7).same s8).1 g8.1 ?_
      have A8 : Lk c t6 (tt ++ t7) := by
        refine (k6.trans (Lk.repl f k5)).trans ?_
        rw [repl_app]
        exact (kT.app k7).symm
      rw [decide_eq_true (show c = c ∧ canon t6 = canon t8 from ⟨rfl, lk_same hc0 g6.2 g8.2 (A8.trans k8.symm)⟩)]
      refine ⟨false, rfl, iteF ?_⟩
      replace gT := (((gT.same s5).same s6).same s7).same s8
      clear zz4 eB4 hb4 zz5 eB5 hb5 zz6 eB6 hb6 S4 S5 S6 S7 s5 s6 s7 s8 n5 n6 n7 n8 g5 g6 g7 g8 k5 k6 k7 k8 A8
      -- of products
      obtain ⟨zz4, eB4, hb4⟩ := sm S8
      refine ⟨_, rfl, _, rfl, b2, b1, c, c, 2, 3, 4, 6, lo, l, rfl, zz4.g2, zz4.g1, hc, by decide, by decide, by decide, fun _ G5 r5 t5 s5 n5 g5 k5 => ?_, fun y => absurd rfl y⟩
      have S5 := S8.trans s5
      obtain ⟨zz5, eB5, hb5⟩ := sm S5
      refine ⟨_, rfl, r5, BG, c, _, _, t5, f, bl, rfl, g5, hc, by decide, by decide, eB5, bnd, blt, hb5, bln, lw g5, fun G6 r6 t6 s6 n6 g6 k6 => ?_⟩
      have S6 := S5.trans s6
      obtain ⟨zz6, eB6, hb6⟩ := sm S6
      refine ⟨_, rfl, _, rfl, b2, BG, c, 2, 3, lo, f, bl, rfl, zz6.g2, hc, by decide, by decide, eB6, bnd, blt, hb6, bln, lw zz6.g2, fun G7 r7 t7 s7 n7 g7 k7 => ?_⟩
      have S7 := S6.trans s7
      refine ⟨_, rfl, r7, tol, c, c, _, _, _, _, t7, tt, rfl, g7, ((gT.same s5).same s6).same s7, hc, by decide, by decide, by decide, fun _ G9 r9 t9 s9 n9 g9 k9 => ?_, fun y => absurd rfl y⟩
      have S9 := S7.trans s9
      refine rd_ne T ((g6.same s7).same s9).1 g9.1 ?_
      have A9 : Lk c t6 (prs t7 tt) := by
        refine (k6.trans (Lk.repl f k5)).trans ?_
        exact Lk.trans (fun x => by rw [tot_repl_prs]) (Lk.prs k7 kT).symm
      rw [decide_eq_true (show c = c ∧ canon t6 = canon t9 from ⟨rfl, lk_same hc0 g6.2 g9.2 (A9.trans k9.symm)⟩)]
      refine ⟨false, rfl, iteF ?_⟩
      replace gT := (((gT.same s5).same s6).same s7).same s9
      clear zz4 eB4 hb4 zz5 eB5 hb5 zz6 eB6 hb6 S8 S5 S6 S7 s5 s6 s7 s9 n5 n6 n7 n9 g5 g6 g7 g9 k5 k6 k7 k9 A9
      -- letters by themselves
      refine ⟨_, rfl, fun D hD => ?_⟩
      refine lc_it walk_str (fun i H' => ∃ (ps : List Addr) (sl : List (Nat × Addr)), H' D = some (.lst (ps.map V.ref)) ∧ Paired (PTr H') ps sl ∧ sl.map (·.1) = lets.take i ∧ (∀ e ∈ sl, Bg K H' e.2 c 2 3 [(⟨#[e.1]⟩, 1)]) ∧ Same G9 H')
        ⟨[], [], upd_same, .nil, rfl, fun e he => (by cases he), same_upd hD⟩ (fun _ _ _ _ => trivial) ?_ ?_
      · rintro i x Hc Hd hi ⟨ps, sl, r1, r2, r3', r4, r5⟩ ⟨rfl, ch, ec, rfl⟩
        rw [lets_size] at hi
        have hch : ch = 120 ∨ ch = 121 ∨ ch = 122 := lets_lt (List.mem_of_getElem? (lets_at ec))
        have v1 : VT c 2 3 ([(⟨#[ch]⟩, 1)] : Tb) := vt1 (a := ⟨#[ch]⟩) ⟨xyz_one hch, by show 1 ≤ 2; decide⟩ (by decide) (by omega)
        refine ⟨rfl, ?_⟩
        refine ⟨_, rfl, _, rfl, fun u nu => ⟨_, rfl, upd_same, kv ([(⟨#[ch]⟩, 1)] : Tb), rfl, Nat.le_of_ble_eq_true rfl, ?_⟩⟩
        rw [upd_upd, merge_kv v1.nd]
        have su := same_upd (o := .dK (kv ([(⟨#[ch]⟩, 1)] : Tb))) nu
        refine fun b dx hb hdx ne => ?_
        refine ⟨b, u, dx, c, _, rfl, upd_same, hc, made_dict upd_same hb hdx, v1.mono (by decide) (by decide), fun He k7 hb7 => ⟨rfl, by show 2 ≤ sizeLine; omega, fun t ht => ?_⟩⟩
        have s7 := su.trans (made_same k7 hb hdx)
        have eDe := s7 _ _ r1
        have st := same_upd (o := .tup [.str ⟨#[ch]⟩, .ref b]) ht
        have hlen := r2.length
        have hbl : sl.length ≤ 3 := by
          have := congrArg List.length r3'
          rw [List.length_map, List.length_take] at this
          show sl.length ≤ 3
          omega
        refine ⟨_, st _ _ eDe, by rw [List.length_map]; omega, ps ++ [t], sl ++ [(ch, b)], by rw [upd_same, List.map_append]; rfl, ptr_snoc (e := (ch, b)) eDe (ptr_same r2 s7) ht, ?_, fun e he => ?_, fun b' o y => ?_⟩
        · rw [List.map_append, r3', List.take_add_one, lets_at ec]
          rfl
        · rcases List.mem_append.mp he with he | he
          · have q9 := (r4 e he).same (s7.trans st)
            exact ⟨q9.1.but (a := D) but_upd ⟨_, st _ _ eDe⟩, q9.2⟩
          · have : e = (ch, b) := by simpa using he
            subst this
            exact ⟨(hb7.same st).but (a := D) but_upd ⟨_, st _ _ eDe⟩, v1⟩
        · rw [upd_ne (ne_of_none y hD)]
          exact st _ _ (s7 _ _ (r5 b' o y))
      rintro Gc ⟨ps, sl, r1, r2, r3', r4, r5⟩
      rw [lets_size] at r3'
      have r3' : sl.map (·.1) = lets := r3'
      refine ⟨D, ps, kvr sl, rfl, SqL.of r1, ptr_kvr r2, fun SG nSG => ?_⟩
      have slnd : (sl.map (·.1)).Nodup := by rw [r3']; exact lets_nd
      rw [merge_kvr slnd]
      have sSG := same_upd (o := .dK (kvr sl)) nSG
      have eSG : (upd Gc SG (.dK (kvr sl))) SG = some (.dK (kvr sl)) := upd_same
      have hsl : ∀ e ∈ sl, Bg K (upd Gc SG (.dK (kvr sl))) e.2 c 2 3 [(⟨#[e.1]⟩, 1)] := fun e he => (r4 e he).same sSG
      have slt : ∀ e ∈ sl, e.1 = 120 ∨ e.1 = 121 ∨ e.1 = 122 := fun e he => lets_lt (by rw [← r3']; exact List.mem_map.mpr ⟨e, he, rfl⟩)
      have sll : sl.length ≤ 3 := by
        have := congrArg List.length r3'
        rw [List.length_map] at this
        exact Nat.le_of_eq this
      have S10 := S9.trans (r5.trans sSG)
      replace gT := gT.same (r5.trans sSG)
      generalize upd Gc SG (.dK (kvr sl)) = G10 at S10 gT eSG hsl ⊢
      clear r1 r2 r4 r5 sSG nSG hD S9
      -- the letters that are there
      obtain ⟨zz4, eB4, hb4⟩ := sm S10
      refine ⟨_, rfl, fun D hD => ?_⟩
      refine lc_it walk_str (fun i H' => ∃ (ps : List Addr) (fl : List (Nat × Addr)), H' D = some (.lst (ps.map V.ref)) ∧ Paired (PTr H') ps fl ∧ fl.map (·.1) = (lets.take i).filter (fun ch => l.any fun p => decide (ch ∈ p.1.cps.toList)) ∧ (∀ e ∈ fl, e ∈ bl) ∧ Same G10 H')
        ⟨[], [], upd_same, .nil, rfl, fun e he => (by cases he), same_upd hD⟩ (fun _ _ _ _ => trivial) ?_ ?_
      · rintro i x Hc Hd hi ⟨ps, fl, r1, r2, r3', r4, r5⟩ ⟨rfl, ch, ec, rfl⟩
        rw [lets_size] at hi
        have hll := vl.ln
        have hfl : fl.length ≤ 3 := by
          have h9 := congrArg List.length r3'
          rw [List.length_map] at h9
          have h8 := List.length_filter_le (fun ch => l.any fun p => decide (ch ∈ p.1.cps.toList)) (lets.take i)
          rw [List.length_take] at h8
          omega
        have ht9 : (lets.take (i + 1)).filter (fun ch => l.any fun p => decide (ch ∈ p.1.cps.toList)) = (lets.take i).filter (fun ch => l.any fun p => decide (ch ∈ p.1.cps.toList)) ++ [ch].filter (fun ch => l.any fun p => decide (ch ∈ p.1.cps.toList)) := by
          rw [List.take_add_one, lets_at ec, List.filter_append]
          rfl
        have ewd := r5 _ _ zz4.ew
        refine ⟨rfl, ?_⟩
        refine ⟨dw, _, ewd, trivial, fun od => ?_⟩
        refine ⟨_, rfl, dw, od, rfl, .inl ⟨_, upd_same, fun D2 hD2 => ?_⟩⟩
        have nD2 : D2 ≠ dw := fun e => by
          rw [e, upd_same] at hD2
          cases hD2
        have hD20 : Hd D2 = none := by
          rw [upd_ne nD2] at hD2
          exact hD2
        refine lc_it walk_keys (fun j H' => H' D2 = some (.lst (((l.take j).map fun p => decide (ch ∈ p.1.cps.toList)).map V.bl)) ∧ But dw Hd H' ∧ H' dw = some (.frz od (.dK (kv l)))) ⟨upd_same, ?_, ?_⟩ (fun j H' _ hP => hP.2.2) ?_ ?_
        · intro b' o y n'
          rw [upd_ne (ne_of_none y hD20), upd_ne n']
          exact y
        · rw [upd_ne nD2.symm]
          exact upd_same
        · rintro j x He Hf hj ⟨q1, q2, q3⟩ ⟨rfl, kk, vv, ee, rfl⟩
          obtain ⟨p', ep, rfl, rfl⟩ := kv_at ee
          rw [kv_len] at hj
          refine ⟨rfl, ?_⟩
          refine ⟨_, rfl, _, rfl, ch, p'.1, rfl, rfl, _, q1, ?_, ?_, fun b' o y n' => ?_, ?_⟩
          · rw [List.length_map, List.length_map, List.length_take]
            omega
          · rw [upd_same, List.take_add_one, ep, List.map_append, List.map_append]
            rfl
          · rw [upd_ne (ne_of_none y hD20)]
            exact q2 b' o y n'
          · rw [upd_ne nD2.symm]
            exact q3
        rintro He ⟨q1, q2, q3⟩
        rw [kv_len, List.take_length] at q1
        have sb := unlock ewd q2
        refine ⟨q3, D2, _, rfl, .inl (.inl (by rw [upd_ne nD2]; exact q1)), _, rfl, ?_⟩
        have hany : ((l.map fun p => decide (ch ∈ p.1.cps.toList)).any id) = l.any fun p => decide (ch ∈ p.1.cps.toList) := by
          rw [List.any_map]
          rfl
        rw [hany]
        refine ite2 (fun hz => ?_) (fun hz => ?_)
        · rw [List.filter_cons_of_pos (by simpa using hz), List.filter_nil] at ht9
          have hcb : ch ∈ bl.map (·.1) := by rw [r3]; exact List.mem_of_getElem? (lets_at ec)
          obtain ⟨e0, he0, rfl⟩ := List.mem_map.mp hcb
          refine ⟨_, rfl, _, rfl, _, rfl, BG, .ref e0.2, rfl, DGet.k (k := Sum.inr (⟨#[e0.1]⟩ : Str)) (sb _ _ (r5 _ _ eB4)) |> fun q9 => by rw [kvr_val bnd he0] at q9; exact q9, by show 2 ≤ sizeLine; omega, fun t ht => ?_⟩
          have eDe := sb _ _ r1
          have st := same_upd (o := .tup [.str ⟨#[e0.1]⟩, .ref e0.2]) ht
          have hlen := r2.length
          refine ⟨_, st _ _ eDe, by rw [List.length_map]; omega, ps ++ [t], fl ++ [e0], by rw [upd_same, List.map_append]; rfl, ptr_snoc (e := e0) eDe (ptr_same r2 sb) ht, ?_, fun e he => ?_, fun b' o y => ?_⟩
          · rw [List.map_append, r3', ht9]
            rfl
          · rcases List.mem_append.mp he with he | he
            · exact r4 e he
            · have : e = e0 := by simpa using he
              rw [this]
              exact he0
          · rw [upd_ne (ne_of_none y hD)]
            exact st _ _ (sb _ _ (r5 b' o y))
        · rw [List.filter_cons_of_neg (by simpa using hz), List.filter_nil, List.append_nil] at ht9
          exact ⟨ps, fl, sb _ _ r1, ptr_same r2 sb, by rw [ht9]; exact r3', r4, r5.trans sb⟩
      rintro Gd ⟨ps, fl, r1, r2, r3', r4, r5⟩
      rw [lets_size] at r3'
      have r3' : fl.map (·.1) = lets.filter (fun ch => l.any fun p => decide (ch ∈ p.1.cps.toList)) := r3'
      refine ⟨D, ps, kvr fl, rfl, SqL.of r1, ptr_kvr r2, fun FG nFG => ?_⟩
      have flnd : (fl.map (·.1)).Nodup := by
        rw [r3']
        exact List.filter_sublist.nodup lets_nd
      rw [merge_kvr flnd]
      have sFG := same_upd (o := .dK (kvr fl)) nFG
      have eFG : (upd Gd FG (.dK (kvr fl))) FG = some (.dK (kvr fl)) := upd_same
      have S11 := S10.trans (r5.trans sFG)
      have s1011 := r5.trans sFG
      replace gT := gT.same s1011
      generalize upd Gd FG (.dK (kvr fl)) = G11 at S11 s1011 gT eFG ⊢
      have fln : fl.length ≤ 3 := by
        have h9 := congrArg List.length r3'
        rw [List.length_map] at h9
        have h8 := List.length_filter_le (fun ch => l.any fun p => decide (ch ∈ p.1.cps.toList)) lets
        have : lets.length = 3 := rfl
        omega
      obtain ⟨zz5, eB5, hb5⟩ := sm S11
      -- the last
      refine ⟨_, rfl, _, rfl, b1, SG, c, 4, 6, l, fun n => [(⟨#[n]⟩, 1)], sl, rfl, zz5.g1, hc, by decide, by decide, s1011 _ _ eSG, slnd, slt, fun e he => (hsl e he).same s1011, sll, cov_of vl (by assumption), fun G12 r12 t12 s12 n12 g12 k12 => ?_⟩
      rw [repl_self _ l fun _ _ _ _ => rfl] at k12
      have S12 := S11.trans s12
      obtain ⟨zz6, eB6, hb6⟩ := sm S12
      refine ⟨_, rfl, rd_eq T g12.1 zz6.g1.1 ?_⟩
      rw [decide_eq_true (show c = c ∧ canon t12 = canon l from ⟨rfl, lk_same hc0 g12.2 vl k12⟩)]
      refine ⟨true, rfl, iteT ?_⟩
      have fcov : ∀ p ∈ l, ∀ n ∈ p.1.cps.toList, n ∈ fl.map (·.1) := fun p hp n hn => by
        rw [r3']
        refine List.mem_filter.mpr ⟨?_, List.any_eq_true.mpr ⟨p, hp, decide_eq_true hn⟩⟩
        have := cov_of vl r3 p hp n hn
        rw [r3] at this
        exact this
      refine ⟨_, rfl, _, rfl, b1, FG, c, 4, 6, l, f, fl, rfl, zz6.g1, hc, by decide, by decide, s12 _ _ eFG, flnd, fun e he => blt e (r4 e he), fun e he => hb6 e (r4 e he), fln, fcov, fun G13 r13 t13 s13 n13 g13 k13 => ?_⟩
      have S13 := S12.trans s13
      obtain ⟨zz7, eB7, hb7⟩ := sm S13
      refine ⟨_, rfl, rd_eq T g13.1 ((gT.same s12).same s13).1 ?_⟩
      rw [decide_eq_true (show c = c ∧ canon t13 = canon tt from ⟨rfl, lk_same hc0 g13.2 gT.2 (k13.trans kT.symm)⟩)]
      refine ⟨true, rfl, iteT ?_⟩
      obtain ⟨dxb, tb, eab, hwb⟩ := id zz7.g1.1
      refine ⟨_, rfl, b1, _, dxb, _, _, rfl, eab, cls_Bag T, na_Bag_words T, flds_words _ _, ?_⟩
      refine ⟨_, rfl, dw, l, rfl, zz7.ew, vl.nd, fun p hp => Nat.le_trans (vl.wd p hp).2 (by decide), Nat.le_trans vl.ln (by decide), fun H' t' s' nt' wt' => ?_⟩
      refine ⟨dW (canon l), dW (canon l), dp_words (hwb.same s'), dp_words wt', dW_plain _, dW_plain _, dW_depth _, ?_⟩
      rw [dW_eqv, decide_eq_true rfl]
      exact q _
end
end Fp

set_option Elab.async false
set_option linter.all false
set_option maxRecDepth 100000
set_option maxHeartbeats 8000000
open PySem PySem.W PySem.Calls PyProof.Rows
theorem PySem.Challenge.cw_frontparts_k04_whole_mirrored_and_replac_holds : PySem.Challenge.rw_frontparts_k04_whole_mirrored_and_replac.Holds := by
  w_on; o_law
  refine HandSHeadRun.head_any (r := OpenLaw.row PySem.Challenge.rw_frontparts_k04_whole_mirrored_and_replac) (q := view (OpenLaw.row PySem.Challenge.rw_frontparts_k04_whole_mirrored_and_replac).prog [51]) (H := Fp.hk) (ob := Fp.ob) (M := 20000) (loose := Fp.loose) (d := HandSHeadRun.topDef (OpenLaw.row PySem.Challenge.rw_frontparts_k04_whole_mirrored_and_replac).prog 51) (kwd := []) Fp.ob_eq
    (by kernel_rfl) (fun s => by kernel_rfl) Fp.run (by kernel_rfl) (by kernel_rfl) (by kernel_rfl) (by rfl) (by first | assumption | decide +kernel) (by decide +kernel) ⟨rfl, rfl, rfl, rfl, rfl, by decide +kernel⟩ ?hw ?hc
  case hw => w_witness2
  case hc =>
    refine L2.walk_ofE (l := PySem.Challenge.rw_frontparts_k04_whole_mirrored_and_replac) (n := 63) (k := 12) (x := "_law_script") (CX := L2.CX0) rfl (by decide) (by kernel_rfl) ⟨rfl, by decide, by decide⟩ ?F (fun _ _ _ _ z => z)
    intro w mg fa h Y G hmg0
    obtain ⟨K, KX, c⟩ := Y
    have hmg : mg ("law" : PySem.Str) = some (.ref fa) := by
      have e : (HandSHeadRun.topDef (OpenLaw.row PySem.Challenge.rw_frontparts_k04_whole_mirrored_and_replac).prog 51).name = ("law" : PySem.Str) := by kernel_rfl
      rw [← e]
      exact hmg0
    have T := Fp.top_of KX G c
    obtain ⟨fd, F⟩ := Fp.fn_law T
    have e := hmg.symm.trans (Fp.g_law T)
    cases e
    have b := L2.FunD.bindsA (ps := ["_law_script"]) F fun _ _ _ _ _ _ us hl => match us, hl with | [_], _ => rfl
    exact ⟨K, fd, Fp.spLaw K, KX, fun s v => b s [v] rfl, fun H a ns hl _ hS => ⟨a, ns, rfl, hS, fun _ => rfl⟩, fun base _ _ => Fp.ok_law T F⟩
