import PyProof.Rows.All
import Wide.All
import OpenK.AllK
import Wide.FinOn
import HandS.ForMost
import HandS.Exc
import HandS.ExcOwn
import HandS.ExcInit
import HandS.IsInst
import HandS.Gcd
import HandS.RaiseMore
import HandS.FStr
import HandS.ListEq
import HandS.DictEq
import HandS.Wide
import HandS.Evl
import HandS.More
import PySem.Challenge.RW_fillerfed_k24_trees_and_their_ways_home
import HandS.SortOrd
import HandS.SortRule
import HandS.Style
import HandS.TryOnly
import HandS.Zip
import HandS.List
import HandS.SetKeys
import HandS.Strs
import HandS.Walk
import KE.GoesEnum
import KE.GoesMore
import HandS.TupMul
import HandS.TupAny
import PyProof.StrOps2
import HandS.Ends
set_option Elab.async false
set_option linter.all false
set_option maxRecDepth 100000
set_option maxHeartbeats 4000000
set_option exponentiation.threshold 500
/-! V0: what the laws of this program share: data in the abstract heap, == and repr of data at any depth, defs that know that no repr runs around them -/
namespace Vd
open PySem PySem.Spec PyProof.Rows L2

/-! ### defs that are called where no repr is under way -/
/-- a def's promise where nothing around holds a guard (a repr of a list ..) -/
structure FnG (P : Program) (w : World) (K : PySem.W.Frag) (mg : Str → Option Value) (base : Heap) (k : Nat) (f : Addr) (fd : FuncData) (ps : List Str) (sp : Sp) : Prop where
  many : ∀ vs H Q E, sp vs H Q E → vs.length = ps.length
  go : ∀ (B : Around) (frames : List Env) (t : Shared) (G : Hp) (args : Args) (us : List Value) (vs : List V) (Q : VK) (E : XK),
    Room k B → B.guards = some [] → Env0 P w K mg base B frames t G → BindsTo t fd args (ps.zip us) → Vals vs us → sp vs G Q E →
    codeAny (model P w) B (.call (.ref f) args) (CR CX0 frames P w G t Q E) t
section
variable {P : Program} {w : World} {K : PySem.W.Frag} {mg : Str → Option Value} {base : Heap} {k : Nat} {f : Addr} {fd : FuncData} {ps : List Str} {sp : Sp}
theorem FnG.of (F : FnOk P w K mg base CX0 k f fd ps sp) : FnG P w K mg base k f fd ps sp :=
  ⟨F.len, fun B frames t G args us vs Q E room _ env bind rel prom => F.run B frames t G args us vs Q E room env bind rel prom⟩
/-- by the body; the room and the guards are told -/
theorem okG {x qual : Str} {st : Stmt} {N : List Str} (F : Fun K x qual st f fd) (S : FnScope N ps (defScope st)) (many : ∀ vs H Q E, sp vs H Q E → vs.length = ps.length)
    (body : ∀ (cdv : Value) (B : Around) (frames : List Env) (t : Shared) (G : Hp) (vs : List V) (Q : VK) (E : XK),
      Room k (B.deeper (envOfC qual (defScope st) t.heap.objs.size f cdv)) → (B.deeper (envOfC qual (defScope st) t.heap.objs.size f cdv)).guards = some [] → sp vs G Q E →
      ∃ r, PSs (cxOf CX0 P w K mg base N qual (defScope st) f cdv B frames t G E).nox (defBody st) r ∧ r { nx := fun _ G' => Q .non G', rt := Q } (start N vs) G) :
    FnG P w K mg base (k + 1) f fd ps sp := by
  obtain ⟨oc, od, kV, doc, pm, an, cdv, ct, osl, rfl, at_f, code⟩ := F.ex
  refine ⟨many, fun B frames t G args us vs Q E room guards env bind rel prom => ?_⟩
  have there : K.In t.heap := env.mod.kin.keeps fun b o q => (env.bs b o q).1
  refine codeAny_call_function room.depth (there _ _ at_f) rfl S.co S.gen rfl (PySem.W.codeRec_of there code) (bind _ _ _ _ ?_)
  refine wpAny_newFunctionEnv_cells S.kind (fun ⟨n, v⟩ hy => ?_) fun env1 same t1 inside => ?_
  · rcases S.par n (List.of_mem_zip hy).1 with q | q
    · exact Or.inl q
    · exact Or.inr ⟨q, PySem.W.cellsFrom_some _ _ _ (Or.inl q)⟩
  · subst same
    have free : t.heap.NoLimit := env.mod.nolimit.keeps fun b o q => (env.bs b o q).1
    refine ⟨free.keeps inside.toInCall.keep, codeAny_func ?_⟩
    obtain ⟨r, walks, reads⟩ := body cdv B frames t G vs Q E (room.deeper _) guards prom
    have J := inv_start (CX := CX0) (P := P) (w := w) (E := E) S room.hd env (many _ _ _ _ prom) rel inside
    refine wpAny_mono (walks.nox.run [] t1 (start N vs) G _ J reads) (fun flow t2 got => ?_) (fun _ _ no => no)
    cases flow with
    | ret u => obtain ⟨v, σ2, G2, J2, rv, q⟩ := got; exact ⟨v, G2, J2.os, J2.bare, J2.base, J2.hok, rv, q⟩
    | next => obtain ⟨σ2, G2, J2, q⟩ := got; exact ⟨V.non, G2, J2.os, J2.bare, J2.base, J2.hok, rfl, q⟩
    | brk => obtain ⟨_, _, _, no⟩ := got; exact no.elim
    | cont => obtain ⟨_, _, _, no⟩ := got; exact no.elim
end
section
variable {X : Cx} {k : Nat} {f : Addr} {fd : FuncData} {ps : List Str} {sp : Sp}
/-- f(e, ..) where no guard is around -/
theorem callG {x : Str} {p pos : Pos} {e : Expr} {es : List Expr} {ta : TA} (F : FnG X.prog X.w X.K X.mg X.base k f fd ps sp) (room : Room k X.A) (guards : X.A.guards = some []) (hg : Gl X x) (hm : X.mg x = some (.ref f))
    (hk : PySem.W.keepIn X.K (.ref f) = true) (hb : Binds X.K fd ps []) (ha : PA X (e :: es) ta) (nd : (x == ("__debug__" : Str)) = false := by decide)
    (he : starEach (e :: es) X.env = (false, eval e X.env) :: starEach es X.env := by rfl) (hp : (backTo pos (starEach es X.env)).any (·.1) = false := by rfl) :
    PE X (.Call (.Name x p) (e :: es) [] pos) (fun σ H Q => ta σ H fun vs H1 => sp vs H1 Q E0) := by
  constructor
  intro pins s σ H Q I h
  refine wpAny_Call_Name_kw (ld_glob I hg hm ?_ nd)
  refine PySem.W.callWith_K (h₀ := X.base) I.ok.mod.kin hk (thn (ha.run pos pins s σ H _ I h) ?_) he hp
  rintro us s1 ⟨vs, H1, I1, rel, prom⟩
  refine ⟨I1.kIn, ?_⟩
  have bind := hb s1 us I1.kIn (by rw [List.append_nil, ← rel.length]; exact F.many _ _ _ _ prom)
  rw [List.append_nil] at bind
  refine wpAny_call (codeAny_mono (F.go X.A X.stack s1 H1 ⟨us, []⟩ us vs Q E0 room guards I1.env0 bind rel prom) fun r s2 got => ?_)
  match r, got with
  | .ok (.ret u), got => exact I1.after got
  | .ok .next, no => exact no.elim
  | .ok .brk, no => exact no.elim
  | .ok .cont, no => exact no.elim
  | .error _, no => exact no.elim
end
end Vd

namespace Vd
open PySem PySem.Spec PyProof.Rows L2

/-! ### == of tuples within one model -/
section
open AutoSeq1 MeetsSeq MeetsSeq2 MeetsSeq3 SeqRoads2
variable {prog : Program} {w : World}
theorem eqTup (l b : Addr) (xs ys : Array Value) (n m : Nat) (d1 d2 : Option Addr) (s1 s2 : Array (Option Value)) (same : xs.size = ys.size) :
    MeetsIn prog w (Builtin.«tuple.__eq__» ⟨[.ref l, .ref b], []⟩)
      (fun A R s => s.heap.get? l = some { cls := .type "tuple", dict := d1, data := .seq xs n, slots := s1 } ∧ s.heap.get? b = some { cls := .type "tuple", dict := d2, data := .seq ys m, slots := s2 } ∧
        (∀ j (p : j < xs.size) (q : j < ys.size), SeqAt.EqP prog w A.in1 s xs[j] ys[j] true) ∧ R (.ok (.ret (.bool true))) s) := by
  refine MeetsIn.of_wp fun A R s h => ?_
  obtain ⟨hp, g, d, tk, os⟩ := s
  obtain ⟨hl, hb, he, h⟩ := h
  have both := AutoSeq1.sub_tuple_tuple
  have len : (xs.toList.zip ys.toList).length = xs.size := by simp [same]
  wp_walk using wpAny_loadPart' hl, wpAny_loadPart' hb, wpAny_forIn_list _ (fun rest b s' => b.1 = none ∧ s' = ⟨hp, g, d, tk, os⟩ ∧ ∃ i, rest = (xs.toList.zip ys.toList).drop i) _
  case turn =>
    rintro ⟨y, x⟩ rest b s' ⟨hb', rfl, i, hz⟩
    have small : i < (xs.toList.zip ys.toList).length := by
      refine Nat.lt_of_not_le fun big => ?_
      rw [List.drop_of_length_le big] at hz
      cases hz
    have p : i < xs.size := len ▸ small
    have q : i < ys.size := same ▸ p
    rw [List.drop_eq_getElem_cons small] at hz
    injection hz with yx tail
    obtain ⟨ey, ex⟩ := Prod.mk.inj yx
    have ey' : y = xs[i] := by simpa using ey
    have ex' : x = ys[i] := by simpa using ex
    subst ey' ex'
    refine wpAny_bind (he i p q _ _ ?_)
    wp_walk
    exact ⟨rfl, rfl, i + 1, tail⟩
  case fin =>
    rintro ⟨b1, b2⟩ s' ⟨none1, rfl, i, _⟩
    simp only at none1
    subst none1
    wp_walk
    refine ⟨_, rfl, ?_⟩
    simpa [Builtin.Tuple.tupleCompareSizes, same] using h
  case h => exact ⟨rfl, rfl, 0, rfl⟩
theorem rcTup {A : Around} {s : Shared} {l b : Addr} {xs ys : Array Value} (hl : s.heap.IsTuple l xs) (hb : s.heap.IsTuple b ys) (same : xs.size = ys.size) (room : A.units < cLine)
    (he : ∀ j (p : j < xs.size) (q : j < ys.size), SeqAt.EqP prog w A.in1 s xs[j] ys[j] true) (E Q : Value → Shared → Prop) (h : Q (.bool true) s) : wpAny (model prog w) A (richCompare .Eq (.ref l) (.ref b)) Q E s := by
  obtain ⟨⟨_, d1, _, s1⟩, o1, rfl, n, rfl⟩ := id hl
  obtain ⟨⟨_, d2, _, s2⟩, o2, rfl, m, rfl⟩ := id hb
  have t1 : s.TypeIs (.ref l) "tuple" := ⟨_, o1, rfl⟩
  refine wpAny_richCompare_same_room (op := .Eq) t1 ⟨_, o2, rfl⟩ F.slot_tuple_eq ?_ room
  exact call_meetsIn F.slot_tuple_eq t1 F.entry_tuple_eq (F.args_tuple_eq_2 _ _) (eqTup l b xs ys n m d1 d2 s1 s2 same) ⟨o1, o2, he, (show Value.bool true ≠ Value.notImplemented ∧ Q (.bool true) s from ⟨fun no => (nomatch no), h⟩)⟩
end

/-! ### data in a heap: its dicts are not the module's own -/
mutual
inductive Rd2 (h : Heap) : Value → PyData → Prop
  | non : Rd2 h .none .none
  | bl (b : Bool) : Rd2 h (.bool b) (.bool b)
  | int (i : Int) (t : Tok) : Rd2 h (.int i t) (.int i)
  | str (x : Str) (t : Tok) : Rd2 h (.str x t) (.str x)
  | lst {a : Addr} {o : Obj} {items : Array Value} {n : Nat} {ds : List PyData} : h.get? a = some o → o.cls = .type "list" → o.data = .seq items n → Rd2s h items.toList ds → Rd2 h (.ref a) (.list ds)
  | tup {a : Addr} {o : Obj} {items : Array Value} {n : Nat} {ds : List PyData} : h.get? a = some o → o.cls = .type "tuple" → o.data = .seq items n → Rd2s h items.toList ds → Rd2 h (.ref a) (.tuple ds)
  | dic {a : Addr} {o : Obj} {es : Array DictEntry} {n : Nat} {ds : List (PyData × PyData)} : (a == sysModules) = false → h.get? a = some o → o.cls = .type "dict" → o.data = .dict es n →
      Rd2s h (es.toList.map (·.key)) (ds.map (·.1)) → Rd2s h (es.toList.map (·.val)) (ds.map (·.2)) → Rd2 h (.ref a) (.dict ds)
inductive Rd2s (h : Heap) : List Value → List PyData → Prop
  | nil : Rd2s h [] []
  | cons {v : Value} {vs : List Value} {d : PyData} {ds : List PyData} : Rd2 h v d → Rd2s h vs ds → Rd2s h (v :: vs) (d :: ds)
end
mutual
theorem Rd2.reads {h : Heap} : ∀ {v : Value} {d : PyData}, Rd2 h v d → ∃ as, Reads h v d as
  | _, _, .non => ⟨_, Reads.none⟩
  | _, _, .bl b => ⟨_, Reads.bool b⟩
  | _, _, .int i t => ⟨_, Reads.int i t⟩
  | _, _, .str x t => ⟨_, Reads.str x t⟩
  | _, _, .lst a b c r => let ⟨_, q⟩ := Rd2s.reads r; ⟨_, Reads.list a b c q⟩
  | _, _, .tup a b c r => let ⟨_, q⟩ := Rd2s.reads r; ⟨_, Reads.tuple a b c q⟩
  | _, _, .dic _ a b c r r' => let ⟨_, q⟩ := Rd2s.reads r; let ⟨_, q'⟩ := Rd2s.reads r'; ⟨_, Reads.dict a b c q q'⟩
theorem Rd2s.reads {h : Heap} : ∀ {vs : List Value} {ds : List PyData}, Rd2s h vs ds → ∃ as, ReadsAll h vs ds as
  | _, _, .nil => ⟨_, ReadsAll.nil⟩
  | _, _, .cons r rs => let ⟨_, q⟩ := Rd2.reads r; let ⟨_, q'⟩ := Rd2s.reads rs; ⟨_, ReadsAll.cons q q'⟩
end
/-- what can be shown, within the line -/
def Shows (d : PyData) : Prop := d.showable = true ∧ d.shown.length ≤ sizeLine
def ShowsAll (ds : List PyData) : Prop := PyData.showableAll ds = true ∧ ∀ t ∈ PyData.shownAll ds, t.length ≤ sizeLine
theorem ShowsAll.of_list {ds : List PyData} (h : Shows (.list ds)) : ShowsAll ds :=
  ⟨by simpa [PyData.showable] using h.1, fun t m => Nat.le_trans (listText_mem_le m) (by simpa only [PyData.shown] using h.2)⟩
theorem ShowsAll.of_tup {ds : List PyData} (h : Shows (.tuple ds)) : ShowsAll ds :=
  ⟨by simpa [PyData.showable] using h.1, fun t m => Nat.le_trans (tupleText_mem_le m) (by simpa only [PyData.shown] using h.2)⟩
theorem ShowsAll.of_dic {ds : List (PyData × PyData)} (h : Shows (.dict ds)) : ShowsAll (ds.map (·.1)) ∧ ShowsAll (ds.map (·.2)) := by
  obtain ⟨a, b⟩ := PyData.showableKv_split ds (by simpa [PyData.showable] using h.1)
  have z : (dictText (PyData.shownKv ds)).length ≤ sizeLine := by simpa only [PyData.shown] using h.2
  refine ⟨⟨a, fun t m => ?_⟩, b, fun t m => ?_⟩
  · obtain ⟨p, hp, hl⟩ := PyData.shownKv_key_le ds t m
    exact Nat.le_trans hl (Nat.le_trans (dictText_mem_le hp) z)
  · obtain ⟨p, hp, hl⟩ := PyData.shownKv_val_le ds t m
    exact Nat.le_trans hl (Nat.le_trans (dictText_mem_le hp) z)
section
variable {prog : Program} {w : World} {h : Heap}
/-- a list's, a tuple's, a dict's parts, none of which is the object itself -/
theorem apart {a : Addr} {d : PyData} {n : Nat} {bs : List Addr} (r : Rd2 h (.ref a) d) (deep : n < d.depth) (low : ReadAtMost h n bs) : a ∉ bs :=
  let ⟨_, q⟩ := r.reads; not_mem_of_deeper q deep low
theorem with_own {a : Addr} {d : PyData} {n : Nat} {bs : List Addr} (r : Rd2 h (.ref a) d) (deep : n ≤ d.depth) (low : ReadAtMost h n bs) : ReadAtMost h d.depth (a :: bs) :=
  let ⟨_, q⟩ := r.reads; ReadAtMost.cons q deep low
def KAll (prog : Program) (w : World) (h : Heap) (vs : List Value) (ds : List PyData) : Prop := ∃ bs, ReadAtMost h (PyData.depthAll ds) bs ∧ ReprAllK prog w bs h (PyData.depthAll ds) vs (PyData.shownAll ds)
theorem kEnt {es : List DictEntry} {ds : List (PyData × PyData)} (k : KAll prog w h (es.map (·.key)) (ds.map (·.1))) (v : KAll prog w h (es.map (·.val)) (ds.map (·.2))) :
    ∃ bs, ReadAtMost h (PyData.depthKv ds) bs ∧ ReprEntriesK prog w bs h (PyData.depthKv ds) es (PyData.shownKv ds) := by
  obtain ⟨b1, l1, k1⟩ := k
  obtain ⟨b2, l2, k2⟩ := v
  refine ⟨b1 ++ b2, (l1.mono (PyData.depthAll_keys_le ds)).append (l2.mono (PyData.depthAll_vals_le ds)), ?_⟩
  rw [PyData.shownKv_eq]
  exact .of_two es _ _ (k1.more_le (fun b m => List.mem_append_left b2 m) (PyData.depthAll_keys_le ds)) (k2.more_le (fun b m => List.mem_append_right b1 m) (PyData.depthAll_vals_le ds))
mutual
theorem repK : ∀ {v : Value} {d : PyData}, Rd2 h v d → Shows d → ∃ bs, ReadAtMost h d.depth bs ∧ ReprK prog w bs h d.depth v d.shown
  | _, _, .non, _ => ⟨[], (fun _ no => nomatch no), by simpa only [PyData.shown] using ReprK.of_is ReprIs.none _ _ _⟩
  | _, _, .bl b, _ => ⟨[], (fun _ no => nomatch no), by simpa only [PyData.shown] using ReprK.of_is (ReprIs.bool b) _ _ _⟩
  | _, _, .int i t, z => ⟨[], (fun _ no => nomatch no), by simpa only [PyData.shown] using ReprK.of_is (ReprIs.int t (of_decide_eq_true z.1)) _ _ _⟩
  | _, _, .str x t, z => ⟨[], (fun _ no => nomatch no), by simpa only [PyData.shown] using ReprK.of_is (ReprIs.str x t z.2) _ _ _⟩
  | _, _, .lst (a := a) (items := items) (ds := ds) o1 o2 o3 r, z => by
    have me : Rd2 h (.ref a) (.list ds) := .lst o1 o2 o3 r
    obtain ⟨bs, low, ks⟩ := repKs r (.of_list z)
    refine ⟨a :: bs, with_own me (Nat.le_succ _) low, ?_⟩
    show ReprK prog w (a :: bs) h (PyData.depthAll ds + 1) (.ref a) (listText (PyData.shownAll ds))
    obtain ⟨l⟩ := items
    cases l with
    | nil =>
      cases (show Rd2s h [] ds from r)
      exact ReprK.listEmpty o1 o2 o3
    | cons x l => exact ReprK.list o1 o2 o3 (apart me (Nat.lt_succ_self _) low) (by simpa using ks.length_eq) fun i y e => ks.item i y (by simpa using e)
  | _, _, .tup (a := a) (ds := ds) o1 o2 o3 r, z => by
    have me : Rd2 h (.ref a) (.tuple ds) := .tup o1 o2 o3 r
    obtain ⟨bs, low, ks⟩ := repKs r (.of_tup z)
    exact ⟨a :: bs, with_own me (Nat.le_succ _) low, ReprK.tuple o1 o2 o3 (apart me (Nat.lt_succ_self _) low) ks⟩
  | _, _, .dic (a := a) (ds := ds) far o1 o2 o3 r r', z => by
    have me : Rd2 h (.ref a) (.dict ds) := .dic far o1 o2 o3 r r'
    obtain ⟨bs, low, ks⟩ := kEnt (repKs r (ShowsAll.of_dic z).1) (repKs r' (ShowsAll.of_dic z).2)
    exact ⟨a :: bs, with_own me (Nat.le_succ _) low, ReprK.dict o1 o2 o3 far (apart me (Nat.lt_succ_self _) low) ks⟩
theorem repKs : ∀ {vs : List Value} {ds : List PyData}, Rd2s h vs ds → ShowsAll ds → KAll prog w h vs ds
  | _, _, .nil, _ => ⟨[], (fun _ no => nomatch no), .nil⟩
  | _, _, .cons (d := d) (ds := ds) r rs, z => by
    have z1 : d.showable = true ∧ PyData.showableAll ds = true := by simpa [PyData.showableAll] using z.1
    obtain ⟨b1, l1, k1⟩ := repK r ⟨z1.1, z.2 _ (List.Mem.head _)⟩
    obtain ⟨b2, l2, k2⟩ := repKs rs ⟨z1.2, fun t m => z.2 t (List.Mem.tail _ m)⟩
    have le1 : d.depth ≤ PyData.depthAll (d :: ds) := Nat.le_max_left _ _
    have le2 : PyData.depthAll ds ≤ PyData.depthAll (d :: ds) := Nat.le_max_right _ _
    exact ⟨b1 ++ b2, (l1.mono le1).append (l2.mono le2), .cons ((k1.more fun b m => List.mem_append_left _ m).level_le le1) (k2.more_le (fun b m => List.mem_append_right _ m) le2)⟩
end
/-- repr(v) -/
theorem reprRun {A : Around} {E : Value → Shared → Prop} {s : Shared} {Q : Value → Shared → Prop} : ∀ {v : Value} {d : PyData}, Rd2 s.heap v d → Shows d → A.guards = some [] → A.units + (d.depth + 1) < cLine →
    (∀ h' u tk, (∀ b o, s.heap.get? b = some o → h'.get? b = some o) → Q (.str d.shown u) { s with heap := h', toks := tk }) → wpAny (model prog w) A (call (.builtin "repr") [v]) Q E s
  | _, _, .non, _, _, _, q => PySem.P.repr_of_none (q _ _ _ fun _ _ e => e)
  | _, _, .bl b, _, _, _, q => PySem.P.repr_of_bool (q _ _ _ fun _ _ e => e)
  | _, _, .int i t, z, _, _, q => PySem.P.repr_of_int (of_decide_eq_true z.1) (q _ _ _ fun _ _ e => e)
  | _, _, .str x t, z, _, _, q => PySem.P.repr_of_str (q _ _ _ fun _ _ e => e) z.2
  | _, _, .lst (a := a) (items := items) (ds := ds) o1 o2 o3 r, z, g, room, q => by
    have me : Rd2 s.heap (.ref a) (.list ds) := .lst o1 o2 o3 r
    obtain ⟨bs, low, ks⟩ := repKs (prog := prog) (w := w) r (.of_list z)
    have room' : A.units + (PyData.depthAll ds + 1 + 1) < cLine := room
    refine call_repr_slot (by omega) ⟨_, o1, o2⟩ F.slot_list_repr.toG ?_
    obtain ⟨l⟩ := items
    cases l with
    | nil =>
      cases (show Rd2s s.heap [] ds from r)
      exact call_list_repr_empty ⟨_, o1, o2⟩ o1 o3 ⟨_, _, rfl, q s.heap _ _ fun _ _ e => e⟩
    | cons x l =>
      exact call_list_reprK o1 o2 o3 (apart me (Nat.lt_succ_self _) low) (by simpa using ks.length_eq) (fun i y e => ks.item i y (by simpa using e)) g (fun b _ => Clear.nil b) (by show A.units + 1 + _ < cLine; omega) (fun _ _ e => e)
        (fun h' u tk k => ⟨_, _, rfl, q h' u tk k⟩) z.2
  | _, _, .tup (a := a) (ds := ds) o1 o2 o3 r, z, g, room, q => by
    have me : Rd2 s.heap (.ref a) (.tuple ds) := .tup o1 o2 o3 r
    obtain ⟨bs, low, ks⟩ := repKs (prog := prog) (w := w) r (.of_tup z)
    have room' : A.units + (PyData.depthAll ds + 1 + 1) < cLine := room
    refine call_repr_slot (by omega) ⟨_, o1, o2⟩ F.slot_tuple_repr ?_
    exact call_tuple_reprK o1 o2 o3 (apart me (Nat.lt_succ_self _) low) ks g (fun b _ => Clear.nil b) (by show A.units + 1 + _ < cLine; omega) (fun _ _ e => e) (fun h' u tk k => ⟨_, _, rfl, q h' u tk k⟩) z.2
  | _, _, .dic (a := a) (ds := ds) far o1 o2 o3 r r', z, g, room, q => by
    have me : Rd2 s.heap (.ref a) (.dict ds) := .dic far o1 o2 o3 r r'
    obtain ⟨bs, low, ks⟩ := kEnt (repKs (prog := prog) (w := w) r (ShowsAll.of_dic z).1) (repKs r' (ShowsAll.of_dic z).2)
    have room' : A.units + (PyData.depthKv ds + 1 + 1) < cLine := room
    refine call_repr_slot (by omega) ⟨_, o1, o2⟩ F.slot_dict_repr ?_
    exact call_dict_reprK o1 o2 o3 far (apart me (Nat.lt_succ_self _) low) ks g (fun b _ => Clear.nil b) (by show A.units + 1 + _ < cLine; omega) (fun _ _ e => e) (fun h' u tk k => ⟨_, _, rfl, q h' u tk k⟩) z.2
end

/-! ### data in the abstract heap -/
def keyD : Key → PyData
  | .inl i => .int i
  | .inr x => .str x
mutual
/-- the value v is the data d: None, truths, ints, texts, lists, tuples, dicts by ints and texts -/
inductive Dat (K : PySem.W.Frag) (H : Hp) : V → PyData → Prop
  | non : Dat K H .non .none
  | bl (b : Bool) : Dat K H (.bl b) (.bool b)
  | int (i : Int) : Dat K H (.int i) (.int i)
  | str (x : Str) : Dat K H (.str x) (.str x)
  | lst {a : Addr} {xs : List V} {ds : List PyData} : SqL K H a xs → DatAll K H xs ds → Dat K H (.ref a) (.list ds)
  | tup {a : Addr} {xs : List V} {ds : List PyData} : SqT K H a xs → DatAll K H xs ds → Dat K H (.ref a) (.tuple ds)
  | dic {a : Addr} {kvs : List (Key × V)} {ds : List (PyData × PyData)} : H a = some (.dK kvs) → DatKv K H kvs ds → Dat K H (.ref a) (.dict ds)
inductive DatAll (K : PySem.W.Frag) (H : Hp) : List V → List PyData → Prop
  | nil : DatAll K H [] []
  | cons {v : V} {vs : List V} {d : PyData} {ds : List PyData} : Dat K H v d → DatAll K H vs ds → DatAll K H (v :: vs) (d :: ds)
inductive DatKv (K : PySem.W.Frag) (H : Hp) : List (Key × V) → List (PyData × PyData) → Prop
  | nil : DatKv K H [] []
  | cons {k : Key} {v : V} {r : List (Key × V)} {d : PyData} {ds : List (PyData × PyData)} : Dat K H v d → DatKv K H r ds → DatKv K H ((k, v) :: r) ((keyD k, d) :: ds)
end

/-! #### it stands in the heap -/
section
variable {X : Cx} {pins : List (Addr × Obj)} {σ : L2.St} {H : Hp} {s : Shared}
theorem key_reads {h : Heap} {k : Key} {u : Value} (r : keyIs k u = true) : Rd2 h u (keyD k) := by
  rcases keyIs_shape r with ⟨i, t, rfl, rfl⟩ | ⟨x, t, rfl, rfl⟩
  · exact .int i t
  · exact .str x t
theorem keys_read {w : World} {P : Program} {h : Heap} {es : List DictEntry} {vs : List (Key × Value)} (p : Pairs (mixKind P w) es vs) : Rd2s h (es.map (·.key)) (vs.map fun q => keyD q.1) ∧ es.map (·.val) = vs.map (·.2) := by
  induction p with
  | nil => exact ⟨.nil, rfl⟩
  | cons a b c ih => exact ⟨.cons (key_reads a) ih.1, by simp only [List.map_cons, b, ih.2]⟩
mutual
theorem Dat.rds (I : Inv X pins σ H s) : ∀ (d : PyData) (v : V) (u : Value), Dat X.K H v d → RelV v u → Rd2 s.heap u d
  | .none, _, _, h, r => by cases h; cases r; exact .non
  | .bool b, _, _, h, r => by cases h; cases r; exact .bl b
  | .int i, _, _, h, r => by cases h; obtain ⟨t, rfl⟩ := r; exact .int i t
  | .str x, _, _, h, r => by cases h; obtain ⟨t, rfl⟩ := r; exact .str x t
  | .list ds, _, _, h, r => by
    cases h with
    | @lst a xs _ at_a items =>
      cases r
      obtain ⟨its, rel, ⟨o, n, e1, e2, _, e3⟩, _⟩ := I.list at_a
      exact .lst e1 e2 e3 (DatAll.rds I ds _ its items rel)
  | .tuple ds, _, _, h, r => by
    cases h with
    | @tup a xs _ at_a items =>
      cases r
      obtain ⟨its, rel, ⟨o, e1, e2, n, e3⟩, _⟩ := I.tuple at_a
      exact .tup e1 e2 e3 (DatAll.rds I ds _ its items rel)
  | .dict ds, _, _, h, r => by
    cases h with
    | @dic a kvs _ at_a items =>
      cases r
      obtain ⟨_, far, vs, rel, o, es, ep, e1, e2, e3, _, pairs, _⟩ := (show ObjOk X.prog X.w H s.heap a (.dK kvs) from I.hok a _ at_a)
      obtain ⟨vals, names⟩ := DatKv.rds I ds kvs vs items rel
      obtain ⟨keys, same⟩ := keys_read (h := s.heap) pairs
      rw [← same] at vals
      rw [← names] at keys
      exact .dic far e1 e2.1 e3 keys vals
theorem DatAll.rds (I : Inv X pins σ H s) : ∀ (ds : List PyData) (vs : List V) (us : List Value), DatAll X.K H vs ds → Vals vs us → Rd2s s.heap us ds
  | [], _, _, h, r => by cases h; cases r; exact .nil
  | d :: ds, _, _, h, r => by
    cases h with
    | cons h1 h2 =>
      cases r with
      | cons r1 r2 => exact .cons (Dat.rds I d _ _ h1 r1) (DatAll.rds I ds _ _ h2 r2)
theorem DatKv.rds (I : Inv X pins σ H s) : ∀ (ds : List (PyData × PyData)) (kvs : List (Key × V)) (vs : List (Key × Value)), DatKv X.K H kvs ds → KV kvs vs →
    Rd2s s.heap (vs.map (·.2)) (ds.map (·.2)) ∧ ds.map (·.1) = vs.map fun q => keyD q.1
  | [], _, _, h, r => by cases h; cases r; exact ⟨.nil, rfl⟩
  | d :: ds, _, _, h, r => by
    cases h with
    | @cons k v kvs d1 _ h1 h2 =>
      cases r with
      | @cons _ b _ _ r1 r2 =>
        obtain ⟨q1, q2⟩ := DatKv.rds I ds _ _ h2 r2
        have e : k = b.1 := r1.1
        exact ⟨.cons (Dat.rds I d1 v b.2 h1 r1.2) q1, by simp only [List.map_cons, q2, e]⟩
end
end
end Vd

namespace Vd
open PySem PySem.Spec PyProof.Rows L2

/-! ### equal data are equal -/
section
variable {X : Cx} {pins : List (Addr × Obj)} {σ : L2.St} {H : Hp} {s : Shared}
/-- richCompare of the same data is True -/
def RcP (P : Program) (w : World) (A : Around) (s : Shared) (u v : Value) : Prop := ∀ E Q : Value → Shared → Prop, Q (.bool true) s → wpAny (model P w) A (richCompare .Eq u v) Q E s
def EqT (P : Program) (w : World) (A : Around) (s : Shared) (u v : Value) : Prop := SeqAt.EqP P w A s u v true
def EqTs (P : Program) (w : World) (A : Around) (s : Shared) (us vs : List Value) : Prop := us.length = vs.length ∧ ∀ j (p : j < us.length) (q : j < vs.length), EqT P w A s us[j] vs[j]
theorem EqTs.nil {P : Program} {w : World} {A : Around} {s : Shared} : EqTs P w A s [] [] := ⟨rfl, fun j p _ => absurd p (Nat.not_lt_zero j)⟩
theorem EqTs.cons {P : Program} {w : World} {A : Around} {s : Shared} {u v : Value} {us vs : List Value} (h : EqT P w A s u v) (r : EqTs P w A s us vs) : EqTs P w A s (u :: us) (v :: vs) := by
  refine ⟨congrArg (· + 1) r.1, fun j p q => ?_⟩
  cases j with
  | zero => exact h
  | succ j => exact r.2 j (Nat.lt_of_succ_lt_succ p) (Nat.lt_of_succ_lt_succ q)
theorem eq_of_rc {P : Program} {w : World} {A : Around} {s : Shared} {a b : Addr} (h : a ≠ b → RcP P w A s (.ref a) (.ref b)) : EqT P w A s (.ref a) (.ref b) := by
  by_cases e : a = b
  · subst e
    exact (SeqAt.EqAt.same _).eqP
  · exact SeqAt.eqP_refs e (h e)
def display : PyData → Bool
  | .list _ | .tuple _ | .dict _ => true
  | _ => false
theorem key_one {k k' : Key} (h : keyD k = keyD k') : k = k' := by
  cases k <;> cases k' <;> simp [keyD] at h <;> simp [h]
theorem DatKv.inv {K : PySem.W.Frag} {G : Hp} {kvs : List (Key × V)} {kd d : PyData} {ds : List (PyData × PyData)} (h : DatKv K G kvs ((kd, d) :: ds)) : ∃ k v r, kvs = (k, v) :: r ∧ kd = keyD k ∧ Dat K G v d ∧ DatKv K G r ds := by
  cases h with
  | cons a b => exact ⟨_, _, _, rfl, rfl, a, b⟩
/-- the keys of two dicts with the same data are the same -/
theorem kv_val {K : PySem.W.Frag} {G : Hp} : ∀ {ds : List (PyData × PyData)} {kvs ls : List (Key × V)}, DatKv K G kvs ds → DatKv K G ls ds → kvs.map (·.1) = ls.map (·.1)
  | [], _, _, h, h' => by cases h; cases h'; rfl
  | (kd, d) :: ds, _, _, h, h' => by
    obtain ⟨k, v, r, rfl, e, _, b⟩ := h.inv
    obtain ⟨k', v', r', rfl, e', _, b'⟩ := h'.inv
    rw [List.map_cons, List.map_cons, kv_val b b', key_one (e.symm.trans e')]
mutual
theorem Dat.eqT (I : Inv X pins σ H s) : ∀ (d : PyData) (A : Around) (x y : V) (u v : Value), A.units + d.depth < cLine → Dat X.K H x d → Dat X.K H y d → RelV x u → RelV y v → EqT X.prog X.w A s u v
  | .none, A, _, _, _, _, _, h, h', r, r' => by cases h; cases h'; exact (eqAt_same r r' rfl).eqP
  | .bool b, A, _, _, _, _, _, h, h', r, r' => by cases h; cases h'; exact (eqAt_same r r' rfl).eqP
  | .int i, A, _, _, _, _, _, h, h', r, r' => by cases h; cases h'; exact (eqAt_same r r' rfl).eqP
  | .str x, A, _, _, _, _, _, h, h', r, r' => by cases h; cases h'; exact (eqAt_same r r' rfl).eqP
  | .list ds, A, _, _, _, _, room, h, h', r, r' => by
    have rc := Dat.rcT I (.list ds) A _ _ _ _ room rfl h h' r r'
    cases h; cases h'; cases r; cases r'
    exact eq_of_rc fun _ => rc
  | .tuple ds, A, _, _, _, _, room, h, h', r, r' => by
    have rc := Dat.rcT I (.tuple ds) A _ _ _ _ room rfl h h' r r'
    cases h; cases h'; cases r; cases r'
    exact eq_of_rc fun _ => rc
  | .dict ds, A, _, _, _, _, room, h, h', r, r' => by
    have rc := Dat.rcT I (.dict ds) A _ _ _ _ room rfl h h' r r'
    cases h; cases h'; cases r; cases r'
    exact eq_of_rc fun _ => rc
theorem Dat.rcT (I : Inv X pins σ H s) : ∀ (d : PyData) (A : Around) (x y : V) (u v : Value), A.units + d.depth < cLine → display d = true →
    Dat X.K H x d → Dat X.K H y d → RelV x u → RelV y v → RcP X.prog X.w A s u v
  | .none, _, _, _, _, _, _, no, _, _, _, _ => nomatch no
  | .bool _, _, _, _, _, _, _, no, _, _, _, _ => nomatch no
  | .int _, _, _, _, _, _, _, no, _, _, _, _ => nomatch no
  | .str _, _, _, _, _, _, _, no, _, _, _, _ => nomatch no
  | .list ds, A, _, _, _, _, room, _, h, h', r, r' => by
    have room2 : A.units + (PyData.depthAll ds + 1) < cLine := room
    cases h with
    | lst p1 items =>
      cases h' with
      | lst p2 items' =>
        cases r; cases r'
        obtain ⟨us, r1, l1, _⟩ := I.list p1
        obtain ⟨vs, r2, l2, _⟩ := I.list p2
        obtain ⟨len, each⟩ := DatAll.eqTs I ds A.in1 _ _ us vs (by show A.units + 1 + _ < cLine; omega) items items' r1 r2
        intro E Q q
        refine SeqAt.rcP_lists (e := fun _ => true) l1.isList l2.isList (by simpa using len) (by omega) (fun j p q => ?_) E Q ?_
        · simpa [EqT] using each j (by simpa using p) (by simpa using q)
        · rw [List.all_eq_true.mpr fun _ _ => rfl]
          exact q
  | .tuple ds, A, _, _, _, _, room, _, h, h', r, r' => by
    have room2 : A.units + (PyData.depthAll ds + 1) < cLine := room
    cases h with
    | tup p1 items =>
      cases h' with
      | tup p2 items' =>
        cases r; cases r'
        obtain ⟨us, r1, ⟨o1, e1, c1, n1, d1⟩, _⟩ := I.tuple p1
        obtain ⟨vs, r2, ⟨o2, e2, c2, n2, d2⟩, _⟩ := I.tuple p2
        obtain ⟨len, each⟩ := DatAll.eqTs I ds A.in1 _ _ us vs (by show A.units + 1 + _ < cLine; omega) items items' r1 r2
        exact rcTup ⟨o1, e1, c1, n1, d1⟩ ⟨o2, e2, c2, n2, d2⟩ (by simpa using len) (by omega) fun j p q => by simpa [EqT] using each j (by simpa using p) (by simpa using q)
  | .dict ds, A, _, _, _, _, room, _, h, h', r, r' => by
    have room2 : A.units + (PyData.depthKv ds + 1) < cLine := room
    cases h with
    | @dic a kvs _ p1 items =>
      cases h' with
      | @dic b ls _ p2 items' =>
        cases r; cases r'
        obtain ⟨_, f1, us, r1, m1⟩ := (show ObjOk X.prog X.w H s.heap a (.dK kvs) from I.hok a _ p1)
        obtain ⟨_, f2, vs, r2, m2⟩ := (show ObjOk X.prog X.w H s.heap b (.dK ls) from I.hok b _ p2)
        have nd : (vs.map (·.1)).Nodup := by obtain ⟨_, _, _, _, _, _, _, _, z⟩ := m2; exact z
        have hits := DatKv.hits I ds A.in1 kvs ls us vs vs (by show A.units + 1 + _ < cLine; omega) items items' r1 r2 nd fun _ m => m
        have len : us.length = vs.length := by
          have e := congrArg List.length (kv_val items items')
          rw [List.length_map, List.length_map] at e
          have e1 := Paired.length r1
          have e2 := Paired.length r2
          omega
        intro E Q q
        refine PySem.W.rcP_dicts (knd := mixKind X.prog X.w) (r := true) f1 f2 m1 m2 (by omega) (fun _ => hits) E Q ?_
        rw [len]
        simpa using q
theorem DatAll.eqTs (I : Inv X pins σ H s) : ∀ (ds : List PyData) (A : Around) (xs ys : List V) (us vs : List Value), A.units + PyData.depthAll ds < cLine → DatAll X.K H xs ds → DatAll X.K H ys ds → Vals xs us → Vals ys vs → EqTs X.prog X.w A s us vs
  | [], _, _, _, _, _, _, h, h', r, r' => by cases h; cases h'; cases r; cases r'; exact .nil
  | d :: ds, A, _, _, _, _, room, h, h', r, r' => by
    have room2 : A.units + max d.depth (PyData.depthAll ds) < cLine := room
    have := Nat.le_max_left d.depth (PyData.depthAll ds)
    have := Nat.le_max_right d.depth (PyData.depthAll ds)
    cases h with
    | cons a b =>
      cases h' with
      | cons a' b' =>
        cases r with
        | cons r1 r2 =>
          cases r' with
          | cons r1' r2' => exact .cons (Dat.eqT I d A _ _ _ _ (by omega) a a' r1 r1') (DatAll.eqTs I ds A _ _ _ _ (by omega) b b' r2 r2')
theorem DatKv.hits (I : Inv X pins σ H s) : ∀ (ds : List (PyData × PyData)) (A : Around) (kvs ls : List (Key × V)) (us vs all : List (Key × Value)), A.units + PyData.depthKv ds < cLine → DatKv X.K H kvs ds → DatKv X.K H ls ds → KV kvs us → KV ls vs →
    (all.map (·.1)).Nodup → (∀ p ∈ vs, p ∈ all) → PySem.W.KeqHitsP X.prog X.w A s all us true
  | [], _, _, _, _, _, _, _, h, h', r, r', _, _ => by cases h; cases r; exact .nil
  | (kd, d) :: ds, A, _, _, _, _, all, room, h, h', r, r', nd, sub => by
    have room2 : A.units + max (max kd.depth d.depth) (PyData.depthKv ds) < cLine := room
    have l1 := Nat.le_max_left (max kd.depth d.depth) (PyData.depthKv ds)
    have l2 := Nat.le_max_right (max kd.depth d.depth) (PyData.depthKv ds)
    have l3 := Nat.le_max_right kd.depth d.depth
    obtain ⟨k, v, kvs, rfl, e0, a, b⟩ := h.inv
    obtain ⟨k', v', ls, rfl, e0', a', b'⟩ := h'.inv
    have e3 : k = k' := key_one (e0.symm.trans e0')
    cases r with
    | @cons _ q _ us r1 r2 =>
      cases r' with
      | @cons _ q' _ vs r1' r2' =>
            obtain ⟨qk, qv⟩ := q
            obtain ⟨qk', qv'⟩ := q'
            have e1 : k = qk := r1.1
            have e2 : k' = qk' := r1'.1
            subst e1 e2 e3
            have at_k : valueAt all k = some qv' := by
              have mem := sub (k, qv') (List.Mem.head _)
              unfold valueAt
              clear sub r1 r1' r2 r2'
              induction all with
              | nil => exact nomatch mem
              | cons p all ih =>
                have nd' : (p.1 :: all.map (·.1)).Nodup := nd
                rcases List.mem_cons.mp mem with e | m
                · subst e
                  simp
                · have ne : p.1 ≠ k := fun e => (List.nodup_cons.mp nd').1 (e ▸ List.mem_map_of_mem (f := (·.1)) m)
                  rw [List.find?_cons_of_neg (by simpa using ne)]
                  exact ih (List.nodup_cons.mp nd').2 m
            exact .hit (e := true) (b := true) at_k (Dat.eqT I d A _ _ _ _ (by omega) a a' r1.2 r1'.2) (DatKv.hits I ds A _ _ us vs all (by omega) b b' r2 r2' nd fun p m => sub p (List.Mem.tail _ m))
end
end
section
variable {X : Cx}
/-- x == y of the same data: True -/
theorem op_eqDat (room : X.A.units + 64 < cLine) : OpR X (compareOp .Eq) (fun x y H Q => ∃ d, Dat X.K H x d ∧ Dat X.K H y d ∧ d.depth ≤ 60 ∧ Q (.bl true) H) := by
  rintro pins s σ H x y u v Q I rx ry ⟨d, h1, h2, deep, q⟩
  have fin : EP X pins σ Q (.bool true) s := ⟨.bl true, H, I, rfl, q⟩
  have go : display d = true → wpAny (model X.prog X.w) X.A (compareOp .Eq u v) (EP X pins σ Q) X.xe s := fun kind => by
    exact Dat.rcT I d X.A x y u v (by omega) kind h1 h2 rx ry _ _ fin
  have flat : ∀ z : V, x = z → y = z → scal z z = true → wpAny (model X.prog X.w) X.A (compareOp .Eq u v) (EP X pins σ Q) X.xe s := fun z e1 e2 sc => by
    subst e1
    subst e2
    exact op_eq pins s σ H _ _ u v Q I rx ry ⟨sc, by simpa using q⟩
  cases d with
  | none => cases h1; cases h2; exact flat _ rfl rfl rfl
  | bool b => cases h1; cases h2; exact flat _ rfl rfl rfl
  | int i => cases h1; cases h2; exact flat _ rfl rfl rfl
  | str x => cases h1; cases h2; exact flat _ rfl rfl rfl
  | list ds => exact go rfl
  | tuple ds => exact go rfl
  | dict ds => exact go rfl
/-- repr(x) -/
theorem call_reprD (room : X.A.units + 64 < cLine) (guards : X.A.guards = some []) : CallR X (.builtin "repr") (fun xs H Q => ∃ x d, xs = [x] ∧ Dat X.K H x d ∧ Shows d ∧ d.depth ≤ 60 ∧ Q (.str d.shown) H) := by
  rintro pins s σ H xs us Q I r ⟨x, d, rfl, h, z, deep, q⟩
  obtain ⟨u, rfl, rx⟩ := vals1 r
  exact reprRun (Dat.rds I d x u h rx) z guards (by omega) fun h' t tk kept => ⟨.str d.shown, H, I.kept (t' := tk) kept, ⟨t, rfl⟩, q⟩
/-- xs[i] in an augmented assignment -/
theorem get_list : PGet X (rIxL X.K) := by
  rintro pins s σ H x y v u Q I rx ry ⟨p, xs, i, z, rfl, rfl, hq, he, q⟩
  cases rx
  obtain ⟨t, rfl⟩ := ry
  obtain ⟨its, r, pl, hz⟩ := I.list hq
  obtain ⟨j, h1, h2, h3, h4, h5⟩ := atI_get he
  obtain ⟨w, ew, rw'⟩ := r.get h2
  have len := r.length
  have wide := line63
  have fin : EP X pins σ Q w s := ⟨z, H, I, rw', q⟩
  by_cases up : 0 ≤ i
  · rw [seqIndex_of up h5] at h1
    cases h1
    exact wpAny_getItem_list pl.isList up (by omega) (by simpa using ew) fin
  · rw [seqIndex_neg (by omega) h4] at h1
    have e := Option.some.inj h1
    rw [len] at e
    exact wpAny_getItem_list_neg pl.isList (by omega) (by rw [List.size_toArray] <;> omega) (by omega) (by rw [List.size_toArray, e]; simpa using ew) fin
end
end Vd

namespace Vd
open PySem PySem.Spec PyProof.Rows L2

/-! ### how long what is shown can be -/
def signsOk (x : Str) : Bool := x.cps.toList.all fun c => decide (c < 16 ^ 8)
mutual
def wgt : PyData → Nat
  | .none => 4
  | .bool _ => 5
  | .int _ => 1921
  | .str x => 10 * x.length + 2
  | .list xs => wgts xs + 2
  | .tuple xs => wgts xs + 4
  | .dict kvs => wgtk kvs + 2
def wgts : List PyData → Nat
  | [] => 0
  | x :: xs => wgt x + 2 + wgts xs
def wgtk : List (PyData × PyData) → Nat
  | [] => 0
  | (k, v) :: r => wgt k + wgt v + 4 + wgtk r
end
mutual
def nice : PyData → Bool
  | .none => true
  | .bool _ => true
  | .int i => decide (i.natAbs.log2 < 1920)
  | .str x => signsOk x
  | .list xs => nices xs
  | .tuple xs => nices xs
  | .dict kvs => nicek kvs
def nices : List PyData → Bool
  | [] => true
  | x :: xs => nice x && nices xs
def nicek : List (PyData × PyData) → Bool
  | [] => true
  | (k, v) :: r => nice k && nice v && nicek r
end
/-- texts, joined by two signs each -/
def sums (ts : List Str) : Nat := (ts.map fun t => t.length + 2).sum
theorem sums_cons (t : Str) (ts : List Str) : sums (t :: ts) = t.length + 2 + sums ts := by simp [sums]
theorem two_signs (k : Nat) : (if k > 0 then ", " else "" : Str).length ≤ 2 := by
  split <;> decide
theorem from_le : ∀ (ts : List Str) (k : Nat) (acc : Str), (textFrom k acc ts).length ≤ acc.length + sums ts
  | [], k, acc => Nat.le_add_right _ _
  | t :: ts, k, acc => by
    have ih := from_le ts (k + 1) (acc ++ (if k > 0 then ", " else "" : String) ++ t)
    rw [strLen_append, strLen_append] at ih
    rw [sums_cons]
    have two : (Str.ofString (if k > 0 then ", " else "")).length ≤ 2 := by split <;> decide
    unfold textFrom
    omega
theorem join_le : ∀ ts : List Str, (Str.join ", " ts).length ≤ sums ts
  | [] => Nat.zero_le _
  | [x] => by show x.length ≤ _; rw [sums_cons]; omega
  | x :: y :: r => by
    have ih := join_le (y :: r)
    show (x ++ (", " : Str) ++ Str.join ", " (y :: r)).length ≤ _
    rw [strLen_append, strLen_append, sums_cons]
    have two : (Str.ofString ", ").length = 2 := by decide
    omega
theorem list_le (ts : List Str) : (listText ts).length ≤ sums ts + 2 := by
  unfold listText
  rw [strLen_append]
  have h := from_le ts 0 "["
  have e1 : (Str.ofString "[").length = 1 := by decide
  have e2 : (Str.ofString "]").length = 1 := by decide
  omega
theorem tup_le (ts : List Str) : (tupleText ts).length ≤ sums ts + 4 := by
  unfold tupleText
  rw [strLen_append, strLen_append]
  have h := join_le ts
  have e1 : (Str.ofString "(").length = 1 := by decide
  have e2 : (Str.ofString (if (ts.length == 1) = true then ",)" else ")")).length ≤ 2 := by split <;> decide
  omega
theorem dict_le (ts : List Str) : (dictText ts).length ≤ sums ts + 2 := by
  unfold dictText
  rw [strLen_append, strLen_append]
  have h := join_le ts
  have e1 : (Str.ofString "{").length = 1 := by decide
  have e2 : (Str.ofString "}").length = 1 := by decide
  omega
mutual
theorem shown_le : ∀ d : PyData, nice d = true → d.shown.length ≤ wgt d
  | .none, _ => by simp only [PyData.shown, wgt]; decide
  | .bool b, _ => by simp only [PyData.shown, wgt]; cases b <;> decide
  | .int i, h => by simp only [PyData.shown, wgt]; exact int_text_len_1921 (of_decide_eq_true (by simpa [nice] using h))
  | .str x, h => by
    simp only [PyData.shown, wgt]
    refine StrLaws.reprText_len x fun c m => ?_
    have all : signsOk x = true := by simpa [nice] using h
    exact of_decide_eq_true (List.all_eq_true.mp all c m)
  | .list xs, h => by
    have ih := showns_le xs (by simpa [nice] using h)
    simp only [PyData.shown, wgt]
    exact Nat.le_trans (list_le _) (Nat.add_le_add_right ih 2)
  | .tuple xs, h => by
    have ih := showns_le xs (by simpa [nice] using h)
    simp only [PyData.shown, wgt]
    exact Nat.le_trans (tup_le _) (Nat.add_le_add_right ih 4)
  | .dict kvs, h => by
    have ih := shownk_le kvs (by simpa [nice] using h)
    simp only [PyData.shown, wgt]
    exact Nat.le_trans (dict_le _) (Nat.add_le_add_right ih 2)
theorem showns_le : ∀ ds : List PyData, nices ds = true → sums (PyData.shownAll ds) ≤ wgts ds
  | [], _ => by simp [PyData.shownAll, sums]
  | d :: ds, h => by
    have h' : nice d = true ∧ nices ds = true := by simpa [nices] using h
    have a := shown_le d h'.1
    have b := showns_le ds h'.2
    simp only [PyData.shownAll, wgts, sums_cons]
    omega
theorem shownk_le : ∀ ds : List (PyData × PyData), nicek ds = true → sums (PyData.shownKv ds) ≤ wgtk ds
  | [], _ => by simp [PyData.shownKv, sums]
  | (k, v) :: ds, h => by
    have h' : (nice k = true ∧ nice v = true) ∧ nicek ds = true := by simpa [nicek] using h
    have a := shown_le k h'.1.1
    have b := shown_le v h'.1.2
    have c := shownk_le ds h'.2
    have e : (Str.ofString ": ").length = 2 := by decide
    simp only [PyData.shownKv, wgtk, sums_cons]
    rw [strLen_append, strLen_append]
    omega
end
mutual
theorem showable_of : ∀ d : PyData, nice d = true → d.showable = true
  | .none, _ => rfl
  | .bool _, _ => rfl
  | .int i, h => by simpa [nice, PyData.showable] using h
  | .str _, _ => rfl
  | .list xs, h => by simpa [PyData.showable] using showables_of xs (by simpa [nice] using h)
  | .tuple xs, h => by simpa [PyData.showable] using showables_of xs (by simpa [nice] using h)
  | .dict kvs, h => by simpa [PyData.showable] using showablek_of kvs (by simpa [nice] using h)
theorem showables_of : ∀ ds : List PyData, nices ds = true → PyData.showableAll ds = true
  | [], _ => rfl
  | d :: ds, h => by
    have h' : nice d = true ∧ nices ds = true := by simpa [nices] using h
    simp [PyData.showableAll, showable_of d h'.1, showables_of ds h'.2]
theorem showablek_of : ∀ ds : List (PyData × PyData), nicek ds = true → PyData.showableKv ds = true
  | [], _ => rfl
  | (k, v) :: ds, h => by
    have h' : (nice k = true ∧ nice v = true) ∧ nicek ds = true := by simpa [nicek] using h
    simp [PyData.showableKv, showable_of k h'.1.1, showable_of v h'.1.2, showablek_of ds h'.2]
end
theorem Shows.of {d : PyData} (h : nice d = true) (low : wgt d ≤ 10000000) : Shows d :=
  ⟨showable_of d h, Nat.le_trans (shown_le d h) (Nat.le_trans low (by rw [sizeLine_eq]; decide))⟩

/-! ### data where the heap grows -/
theorem Rd.up {H H' : Hp} (e : ∀ p o, H p = some o → H' p = some o) {a : Addr} {u : HO} (h : Rd H a u) : Rd H' a u := by
  rcases h with h | ⟨o, h⟩
  · exact .inl (e _ _ h)
  · exact .inr ⟨o, e _ _ h⟩
theorem sql_up {K : PySem.W.Frag} {H H' : Hp} (e : ∀ p o, H p = some o → H' p = some o) {a : Addr} {xs : List V} (h : SqL K H a xs) : SqL K H' a xs := by
  rcases h with h | h
  · exact .inl (Rd.up e h)
  · exact .inr h
theorem sqt_up {K : PySem.W.Frag} {H H' : Hp} (e : ∀ p o, H p = some o → H' p = some o) {a : Addr} {xs : List V} (h : SqT K H a xs) : SqT K H' a xs := by
  rcases h with h | h
  · exact .inl (Rd.up e h)
  · exact .inr h
mutual
theorem Dat.up {K : PySem.W.Frag} {H H' : Hp} (e : ∀ p o, H p = some o → H' p = some o) : ∀ {v : V} {d : PyData}, Dat K H v d → Dat K H' v d
  | _, _, .non => .non
  | _, _, .bl b => .bl b
  | _, _, .int i => .int i
  | _, _, .str x => .str x
  | _, _, .lst a b => .lst (sql_up e a) (DatAll.up e b)
  | _, _, .tup a b => .tup (sqt_up e a) (DatAll.up e b)
  | _, _, .dic a b => .dic (e _ _ a) (DatKv.up e b)
theorem DatAll.up {K : PySem.W.Frag} {H H' : Hp} (e : ∀ p o, H p = some o → H' p = some o) : ∀ {vs : List V} {ds : List PyData}, DatAll K H vs ds → DatAll K H' vs ds
  | _, _, .nil => .nil
  | _, _, .cons a b => .cons (Dat.up e a) (DatAll.up e b)
theorem DatKv.up {K : PySem.W.Frag} {H H' : Hp} (e : ∀ p o, H p = some o → H' p = some o) : ∀ {vs : List (Key × V)} {ds : List (PyData × PyData)}, DatKv K H vs ds → DatKv K H' vs ds
  | _, _, .nil => .nil
  | _, _, .cons a b => .cons (Dat.up e a) (DatKv.up e b)
end
theorem DatAll.snoc {K : PySem.W.Frag} {H : Hp} {v : V} {d : PyData} (h : Dat K H v d) : ∀ {vs : List V} {ds : List PyData}, DatAll K H vs ds → DatAll K H (vs ++ [v]) (ds ++ [d])
  | _, _, .nil => .cons h .nil
  | _, _, .cons a b => .cons a (DatAll.snoc h b)
end Vd

namespace K24
open PySem PySem.Spec PyProof.Rows L2 Vd Evl
def topS (i : Nat) : Stmt := PySem.Challenge.pw_fillerfed_k24_trees_and_their_ways_home.main.body.getD i (.Pass ⟨0, 0, 0, 0⟩)
abbrev sBag : Stmt := topS 18
abbrev sTake : Stmt := topS 19
abbrev sSome : Stmt := topS 20
abbrev sAlike : Stmt := topS 22
theorem scBag : FnScope ["script", "cell"] ["script"] (defScope sBag) := ⟨rfl, rfl, rfl, by decide +kernel, rfl, by decide +kernel, by decide +kernel⟩
theorem scTake : FnScope ["bag", "many", "cell", "stirred", "value", "begin", "second"] ["bag", "many"] (defScope sTake) := ⟨rfl, rfl, rfl, by decide +kernel, rfl, by decide +kernel, by decide +kernel⟩
theorem scSome : FnScope ["bag", "things"] ["bag", "things"] (defScope sSome) := ⟨rfl, rfl, rfl, by decide +kernel, rfl, by decide +kernel, by decide +kernel⟩

/-! ### heaps: all as it was but the bag -/
def But (b : Addr) (H H' : Hp) : Prop := (∀ p o, p ≠ b → H p = some o → H' p = some o) ∧
  ∀ (x y z : Int) (c : Addr), H b = some (.lst [.int x, .int y, .int z, .ref c]) → ∃ x' y' z' : Int, H' b = some (.lst [.int x', .int y', .int z', .ref c])
theorem But.refl (b : Addr) (H : Hp) : But b H H := ⟨fun _ _ _ e => e, fun x y z _ e => ⟨x, y, z, e⟩⟩
theorem But.trans {b : Addr} {H H1 H2 : Hp} (x : But b H H1) (y : But b H1 H2) : But b H H2 := ⟨fun p o n e => y.1 p o n (x.1 p o n e), fun i j k c e => by
  obtain ⟨i', j', k', e'⟩ := x.2 i j k c e
  exact y.2 _ _ _ _ e'⟩
theorem But.of {b : Addr} {H H1 : Hp} (x : Same H H1) : But b H H1 := ⟨fun p o _ e => x p o e, fun i j k c e => ⟨i, j, k, x _ _ e⟩⟩
theorem But.upd {b c : Addr} {H H1 : Hp} {i j k i' j' k' : Int} (x : But b H H1) (at_b : H b = some (.lst [.int i, .int j, .int k, .ref c])) : But b H (upd H1 b (.lst [.int i', .int j', .int k', .ref c])) := ⟨fun p u n e => by
  rw [upd_ne n]
  exact x.1 p u n e, fun i2 j2 k2 c2 e => by
  rw [at_b] at e
  cases e
  exact ⟨i', j', k', upd_same⟩⟩
theorem But.new {b p : Addr} {H H1 : Hp} {o : HO} (x : But b H H1) (n : H1 p = none) : But b H (L2.upd H1 p o) := ⟨fun q u ne e => by
  have e1 := x.1 q u ne e
  rw [upd_ne (ne_of_none e1 n)]
  exact e1, fun i j k c e => by
  obtain ⟨i', j', k', e'⟩ := x.2 i j k c e
  exact ⟨i', j', k', by rw [upd_ne (ne_of_none e' n)]; exact e'⟩⟩
def BagAt (H : Hp) (b : Addr) : Prop := ∃ (x y z : Int) (c : Addr) (ns : List Int), H b = some (.lst [.int x, .int y, .int z, .ref c]) ∧ H c = some (.lst (ns.map V.int)) ∧ ns.length ≤ 63
theorem same_new {H : Hp} {p : Addr} {o : HO} (h : H p = none) : Same H (upd H p o) := fun b x e => by
  rw [upd_ne (ne_of_none e h)]
  exact e
theorem len_line {n : Nat} (h : n ≤ 100000) : n ≤ sizeLine := Nat.le_trans h (by decide)

section
variable {P : Program} {w : World} {K : PySem.W.Frag} {mg : Str → Option Value} {base : Heap}
/-! ### the bag -/
def spBag (K : PySem.W.Frag) : Sp := fun vs H Q _ => ∃ (a : Addr) (ns : List Int), vs = [.ref a] ∧ SqL K H a (ns.map V.int) ∧ ns.length ≤ 63 ∧ ∀ H' p, Same H H' → H p = none → BagAt H' p → Q (.ref p) H'
theorem cut_ints (ns : List Int) (lo hi : Option Int) : ∃ ms : List Int, cutV (ns.map V.int) lo hi = ms.map V.int ∧ ms.length ≤ ns.length := by
  refine ⟨(ns.drop (HT.sIx (ns.map V.int).length 0 lo)).take (HT.sIx (ns.map V.int).length (ns.map V.int).length hi - HT.sIx (ns.map V.int).length 0 lo), ?_, ?_⟩
  · unfold cutV
    rw [List.map_take, List.map_drop]
  · rw [List.length_take, List.length_drop]
    omega
theorem ok_bag {f : Addr} {fd : FuncData} (F : Fun K "_law_bag" "_law_bag" sBag f fd) (ma : mg "abs" = none) : FnOk P w K mg base CX0 1 f fd ["script"] (spBag K) := by
  refine F.ok scBag (fun vs H Q E h => ?_) (fun cdv A outer s H vs Q E hr h => ?_)
  · obtain ⟨a, ns, rfl, _⟩ := h
    rfl
  · obtain ⟨a, ns, rfl, hS, hlen, q⟩ := h
    refine ⟨_, pss_one (ps_ret (pe_lst (pa_cons pe_int (pa_cons pe_int (pa_cons pe_int (pa_cons
      (pe_lc (own := [("cell", 1)]) (g := gName 1) (tt := tYes) rfl scBag.nd (pi_list (pe_slice sl_list (pv 0) po_none (po_some pe_int)))
        (blkOk_by (N := ["script", "cell"]) (sc := defScope sBag) (by decide +kernel)) (fun _ _ _ _ _ => pg_name (i := 1) scBag.nd rfl (Or.inl rfl)) (fun _ _ _ _ _ => pts_nil)
        (fun _ _ _ _ _ => pe_callB call_abs (by rfl) ma (by decide +kernel) (pa_cons (pv 1) pa_nil)))
      pa_nil)))))), ?_⟩
    obtain ⟨ms, cut, small⟩ := cut_ints ns none (some 63)
    refine ⟨.ref a, rfl, 63, rfl, a, ns.map V.int, rfl, hS, fun c nc => ?_⟩
    rw [cut]
    have s1 : Same H (upd H c (.lst (ms.map V.int))) := same_new nc
    refine ⟨c, rfl, ⟨_, SqL.of upd_same⟩, fun D nD => ?_⟩
    have cD : c ≠ D := ne_of_none (upd_same (H := H) (a := c)) nD
    refine lc_list (K := K) (a := c) (xs := ms.map V.int) (fun i G => ∃ os : List Int, os.length = i ∧ G D = some (.lst (os.map V.int)) ∧ G c = some (.lst (ms.map V.int)) ∧ Same H G) ?_ ?_ ?_ ?_
    · exact ⟨[], rfl, upd_same, by rw [upd_ne cD, upd_same], s1.trans (same_new nD)⟩
    · rintro i G _ ⟨os, _, _, at_c, _⟩
      exact SqL.of at_c
    · rintro i x G at_i ⟨os, len, at_D, at_c, same⟩
      obtain ⟨n, rfl⟩ : ∃ n, x = V.int n := by
        rw [List.getElem?_map] at at_i
        cases e : ms[i]? with
        | none => rw [e] at at_i; cases at_i
        | some n => rw [e] at at_i; exact ⟨n, (Option.some.inj at_i).symm⟩
      have lt : i < ms.length := by
        have := (List.getElem?_eq_some_iff.mp at_i).1
        rwa [List.length_map] at this
      refine ⟨rfl, _, rfl, n, rfl, _, at_D, ?_, os ++ [if n < 0 then -n else n], by simp [len], ?_, ?_, ?_⟩
      · rw [List.length_map]
        exact small1000 (by omega)
      · rw [upd_same, List.map_append]
        rfl
      · rw [upd_ne cD]
        exact at_c
      · refine fun p o e => ?_
        have e1 := same p o e
        rw [upd_ne (ne_of_none e (s1.free nD))]
        exact e1
    · rintro G ⟨os, len, at_D, at_c, same⟩
      refine ⟨len_line (by show 4 ≤ 100000; decide), fun p np => ?_⟩
      refine q _ p (same.trans (same_new np)) (same.free np) ⟨0, 1234567891, 0, D, os, upd_same, ?_, ?_⟩
      · rw [upd_ne (ne_of_none at_D np)]
        exact at_D
      · rw [List.length_map] at len
        omega

/-! ### a draw -/
def spTake : Sp := fun vs H Q _ => ∃ (b : Addr) (many : Int), vs = [.ref b, .int many] ∧ BagAt H b ∧ 0 < many ∧ many < 1073741824 ∧ ∀ H' v, But b H H' → BagAt H' b → 0 ≤ v → v < many → Q (.int v) H'
theorem at4 (a b c d : V) : atI [a, b, c, d] 0 = some a ∧ atI [a, b, c, d] 1 = some b ∧ atI [a, b, c, d] 2 = some c ∧ atI [a, b, c, d] 3 = some d := ⟨rfl, rfl, rfl, rfl⟩
theorem bag_apart {H : Hp} {b c : Addr} {x y z : Int} {ns : List Int} (hb : H b = some (.lst [.int x, .int y, .int z, .ref c])) (hc : H c = some (.lst (ns.map V.int))) : c ≠ b := by
  refine ne_of hc hb fun e => ?_
  have e1 : ns.map V.int = [.int x, .int y, .int z, .ref c] := by injection e
  have m : V.ref c ∈ ns.map V.int := by
    rw [e1]
    simp
  obtain ⟨n, _, no⟩ := List.mem_map.mp m
  cases no
theorem first_int (ms : List Int) : ∃ k, atI (ms.map V.int ++ [V.int 0]) 0 = some (V.int k) := by
  cases ms with
  | nil => exact ⟨0, rfl⟩
  | cons m ms => exact ⟨m, atI_nat (j := 0) rfl⟩
theorem ok_take {f : Addr} {fd : FuncData} (F : Fun K "_law_take" "_law_take" sTake f fd) (mi : mg "int" = none) : FnOk P w K mg base CX0 1 f fd ["bag", "many"] spTake := by
  refine F.ok scTake (fun vs H Q E h => ?_) (fun cdv A outer s H vs Q E hr h => ?_)
  · obtain ⟨b, m, rfl, _⟩ := h
    rfl
  · obtain ⟨b, many, rfl, ⟨x, y, z, c, ns, at_b, at_c, few⟩, pos, low, q⟩ := h
    have nd := scTake.nd
    refine ⟨_, pss_cut (ps_if (pt_cmpR op_eq (pe_ix ix_list (pv 0) pe_int (fun _ _ => rfl)) pe_int (nomark _))
        (pss_cons (ps_set (i := 2) nd rfl (Or.inl rfl) (pe_ix ix_list (pe_op op_cat (pe_slice sl_list (pe_ix ix_list (pv 0) pe_int (fun _ _ => rfl)) (po_some (pe_ix ix_list (pv 0) pe_int (fun _ _ => rfl))) po_none) (pe_lst (pa_cons pe_int pa_nil))) pe_int (fun _ _ => rfl)))
        (pss_cons (ps_augS (pv 0) pe_int get_list pe_int ip_add set_list)
        (pss_cut (ps_if (pt_cmpR op_ge (pv 2) (pe_op op_pow pe_int pe_int) (nomark _)) (pss_one (ps_asg (pv 2) (pg_sub (pv 0) pe_int set_list))) pss_nil)
        (pss_cons (ps_set (i := 3) nd rfl (Or.inl rfl) (pe_op op_add (pe_op op_add (pe_op op_mul (pe_ix ix_list (pv 0) pe_int (fun _ _ => rfl)) pe_int)
            (pe_op op_mod (pe_callTy call_int1 (by rfl) mi (by decide +kernel) (pa_cons (pv 2) pa_nil)) pe_int)) (pe_op op_mul pe_int (pe_ix ix_list (pv 0) pe_int (fun _ _ => rfl)))))
        (pss_one (ps_asg (pe_op op_mod (pe_callTy call_int1 (by rfl) mi (by decide +kernel) (pa_cons (pv 3) pa_nil)) pe_int) (pg_sub (pv 0) pe_int set_list)))))))
        pss_nil)
      (pss_cons (ps_if (pt_cmpR op_gt (pe_ix ix_list (pv 0) pe_int (fun _ _ => rfl)) pe_int (nomark _))
        (pss_cons (ps_set (i := 4) nd rfl (Or.inl rfl) (pe_op op_mod (pe_callTy call_int1 (by rfl) mi (by decide +kernel) (pa_cons (pe_ix ix_list (pv 0) pe_int (fun _ _ => rfl)) pa_nil)) (pv 1)))
        (pss_cons (ps_asg (pe_op op_fdiv (pe_callTy call_int1 (by rfl) mi (by decide +kernel) (pa_cons (pe_ix ix_list (pv 0) pe_int (fun _ _ => rfl)) pa_nil)) (pv 1)) (pg_sub (pv 0) pe_int set_list))
        (pss_one (ps_ret (pv 4))))) pss_nil)
      (pss_cons (ps_set (i := 5) nd rfl (Or.inl rfl) (pe_op op_mod (pe_callTy call_int1 (by rfl) mi (by decide +kernel) (pa_cons (pe_op op_mul (pe_op op_add (pe_ix ix_list (pv 0) pe_int (fun _ _ => rfl)) pe_int) pe_int) pa_nil)) pe_int))
      (pss_cons (ps_set (i := 6) nd rfl (Or.inl rfl) (pe_op op_mod (pe_callTy call_int1 (by rfl) mi (by decide +kernel) (pa_cons (pe_op op_mul (pe_op op_mod (pe_callTy call_int1 (by rfl) mi (by decide +kernel) (pa_cons (pe_op op_mul (pv 5) (pv 5)) pa_nil)) pe_int) pe_int) pa_nil)) pe_int))
      (pss_one (ps_ret (pe_op op_mod (pe_callTy call_int1 (by rfl) mi (by decide +kernel) (pa_cons (pe_op op_fdiv (pv 6) pe_int) pa_nil)) (pv 1))))))), ?_⟩
    have cb : c ≠ b := bag_apart at_b at_c
    refine ⟨fun σ' H' => ∃ (x y z : Int) (s2 s3 s4 s5 s6 : Option V), σ' = [some (.ref b), some (.int many), s2, s3, s4, s5, s6] ∧ H' b = some (.lst [.int x, .int y, .int z, .ref c]) ∧ But b H H', ?_, ?_⟩
    · -- if bag[0] == 0
      refine ⟨_, rfl, b, _, 0, _, rfl, rfl, SqL.of at_b, rfl, rfl, _, rfl, ?_⟩
      refine ite2 (fun _ => ?_) (fun _ => ⟨x, y, z, none, none, none, none, none, rfl, at_b, But.refl b H⟩)
      obtain ⟨ms, cut, small⟩ := cut_ints ns (some z) none
      obtain ⟨k, first⟩ := first_int ms
      refine ⟨_, rfl, b, _, 3, _, rfl, rfl, SqL.of at_b, rfl, _, rfl, b, _, 2, _, rfl, rfl, SqL.of at_b, rfl, z, rfl, c, ns.map V.int, rfl, SqL.of at_c, fun p np => ?_⟩
      rw [cut]
      refine ⟨len_line (by show 1 ≤ 100000; decide), fun p2 np2 => ?_⟩
      have pp : p ≠ p2 := ne_of_none (upd_same (H := H) (a := p)) np2
      refine ⟨p, p2, ms.map V.int, _, rfl, rfl, by rw [upd_ne pp, upd_same], upd_same, len_line (by simp; omega), fun p3 np3 => ?_⟩
      refine ⟨p3, _, 0, .int k, rfl, rfl, SqL.of upd_same, first, ?_⟩
      have s3 := ((same_new (o := .lst (ms.map V.int)) np).trans (same_new (o := .lst [V.int 0]) np2)).trans (same_new (o := .lst (ms.map V.int ++ [V.int 0])) np3)
      revert s3
      generalize upd (upd (upd H p (.lst (ms.map V.int))) p2 (.lst [V.int 0])) p3 (.lst (ms.map V.int ++ [V.int 0])) = H3
      intro s3
      -- bag[2] += 1
      refine ⟨_, rfl, b, _, 2, _, rfl, rfl, SqL.of (s3 _ _ at_b), rfl, z, 1, rfl, rfl, b, _, 2, 2, rfl, rfl, s3 _ _ at_b, rfl, ?_⟩
      refine ⟨fun σ' H' => ∃ x : Int, σ' = [some (.ref b), some (.int many), some (.int k), none, none, none, none] ∧ H' b = some (.lst [.int x, .int y, .int (z + 1), .ref c]) ∧ But b H H', ?_, ?_⟩
      · refine ⟨_, rfl, 10, 18, rfl, rfl, ⟨by decide, by decide, by decide⟩, _, _, rfl, rfl, _, rfl, ?_⟩
        refine ite2 (fun _ => ?_) (fun _ => ⟨x, rfl, upd_same, (But.of s3).upd at_b⟩)
        exact ⟨_, rfl, _, rfl, b, _, 0, 0, rfl, rfl, upd_same, rfl, k, rfl, upd_same, ((But.of s3).upd (i' := x) (j' := y) (k' := z + 1) at_b).upd at_b⟩
      · rintro _ H4 ⟨x4, rfl, at4b, but4⟩
        refine ⟨_, rfl, b, _, 1, _, rfl, rfl, SqL.of at4b, rfl, _, _, rfl, rfl, .inr ⟨by decide, by decide⟩, _, rfl, .inl ⟨k, rfl, ?_⟩⟩
        refine ⟨_, _, rfl, rfl, (by show (0 : Int) < 2147483647; decide), _, _, rfl, rfl, ?_⟩
        refine ⟨_, rfl, b, _, 2, _, rfl, rfl, SqL.of at4b, rfl, _, _, rfl, rfl, .inl ⟨by decide, by decide⟩, _, _, rfl, rfl, ?_⟩
        refine ⟨_, rfl, .inl ⟨_, rfl, ?_⟩⟩
        refine ⟨_, _, rfl, rfl, (by show (0 : Int) < 2147483647; decide), _, rfl, b, _, 1, 1, rfl, rfl, at4b, rfl, ?_⟩
        exact ⟨x4, _, z + 1, _, _, none, none, none, rfl, upd_same, but4.upd at_b⟩
    · rintro _ H1 ⟨x1, y1, z1, s2, s3, s4, s5, s6, rfl, at1, but1⟩
      have at_c1 : ∀ {G : Hp}, But b H G → G c = some (.lst (ns.map V.int)) := fun h => h.1 _ _ cb at_c
      refine ⟨_, rfl, b, _, 0, _, rfl, rfl, SqL.of at1, rfl, _, _, rfl, rfl, _, rfl, ?_⟩
      refine ite2 (fun _ => ?_) (fun _ => ?_)
      · refine ⟨_, rfl, b, _, 0, _, rfl, rfl, SqL.of at1, rfl, .inl ⟨_, rfl, _, rfl, _, _, rfl, rfl, pos, ?_⟩⟩
        refine ⟨_, rfl, b, _, 0, _, rfl, rfl, SqL.of at1, rfl, .inl ⟨_, rfl, _, rfl, _, _, rfl, rfl, ⟨pos, low⟩, ?_⟩⟩
        refine ⟨_, rfl, b, _, 0, 0, rfl, rfl, at1, rfl, _, rfl, ?_⟩
        exact q _ _ (but1.upd at_b) ⟨_, y1, z1, c, ns, upd_same, at_c1 (but1.upd (i' := x1 / many) (j' := y1) (k' := z1) at_b), few⟩ (Int.emod_nonneg _ (by omega)) (Int.emod_lt_of_pos _ pos)
      · refine ⟨_, rfl, b, _, 1, _, rfl, rfl, SqL.of at1, rfl, _, _, rfl, rfl, _, _, rfl, rfl, .inr ⟨by decide, by decide⟩, .inl ⟨_, rfl, ?_⟩⟩
        have p1 : (0 : Int) < 1000000007 := by decide
        have p2 : (0 : Int) < 998244353 := by decide
        refine ⟨_, _, rfl, rfl, p1, ?_⟩
        have l1 := Int.emod_nonneg ((y1 + 1) * 39373) (b := 1000000007) (by decide)
        have l2 := Int.emod_lt_of_pos ((y1 + 1) * 39373) p1
        refine ⟨_, rfl, _, rfl, _, _, rfl, rfl, .inl ⟨by omega, by omega⟩, .inl ⟨_, rfl, _, _, rfl, rfl, p2, _, _, rfl, rfl, .inr ⟨by decide, by decide⟩, .inl ⟨_, rfl, _, _, rfl, rfl, p2, ?_⟩⟩⟩
        refine ⟨_, rfl, _, _, rfl, rfl, ⟨by decide, by decide⟩, .inl ⟨_, rfl, _, rfl, _, _, rfl, rfl, pos, ?_⟩⟩
        exact q _ _ but1 ⟨x1, y1, z1, c, ns, at1, at_c1 but1, few⟩ (Int.emod_nonneg _ (by omega)) (Int.emod_lt_of_pos _ pos)

/-! ### where a def stands -/
structure At (K : PySem.W.Frag) (mg : Str → Option Value) (x : Str) (st : Stmt) (ps : List Str) (f : Addr) (fd : FuncData) : Prop where
  fn : Fun K x x st f fd
  b : Binds K fd ps []
  g : mg x = some (.ref f)
theorem But.rd {b p : Addr} {H H' : Hp} {u : HO} (x : But b H H') (n : p ≠ b) (h : Rd H p u) : Rd H' p u := by
  rcases h with h | ⟨o, h⟩
  · exact .inl (x.1 _ _ n h)
  · exact .inr ⟨o, x.1 _ _ n h⟩
theorem But.l {b p : Addr} {H H' : Hp} {xs : List V} (x : But b H H') (n : p ≠ b) (h : SqL K H p xs) : SqL K H' p xs := by
  rcases h with h | h
  · exact .inl (x.rd n h)
  · exact .inr h
theorem But.t {b p : Addr} {H H' : Hp} {xs : List V} (x : But b H H') (n : p ≠ b) (h : SqT K H p xs) : SqT K H' p xs := by
  rcases h with h | h
  · exact .inl (x.rd n h)
  · exact .inr h
/-! ### one of some things -/
def spSome (K : PySem.W.Frag) : Sp := fun vs H Q _ => ∃ (b p : Addr) (xs : List V), vs = [.ref b, .ref p] ∧ BagAt H b ∧ (SqL K H p xs ∨ SqT K H p xs) ∧ p ≠ b ∧ 0 < xs.length ∧ xs.length < 1073741824 ∧
  ∀ H' v, v ∈ xs → But b H H' → BagAt H' b → Q v H'
theorem ok_some {f fT : Addr} {fd fdT : FuncData} (F : At K mg "_law_some" sSome ["bag", "things"] f fd) (T : At K mg "_law_take" sTake ["bag", "many"] fT fdT) (mi : mg "int" = none) (ml : mg "len" = none) :
    FnOk P w K mg base CX0 2 f fd ["bag", "things"] (spSome K) := by
  have GT : FnOk P w K mg base CX0 1 fT fdT ["bag", "many"] spTake := ok_take T.fn mi
  refine F.fn.ok scSome (fun vs H Q E h => ?_) (fun cdv A outer s H vs Q E hr h => ?_)
  · obtain ⟨b, p, xs, rfl, _⟩ := h
    rfl
  · obtain ⟨b, p, xs, rfl, bag, there, apart, pos, low, q⟩ := h
    refine ⟨_, pss_one (ps_ret (pe_ix (ix_list.or ix_tup) (pv 1) (pe_call GT hr (by rfl) T.g T.fn.kp T.b .nil pass0 (pa_cons (pv 0) (pa_cons (pe_callB call_len_seq (by rfl) ml PySem.boot_len (pa_cons (pv 1) pa_nil)) pa_nil))) (fun _ _ => rfl))), ?_⟩
    refine ⟨_, rfl, _, rfl, _, rfl, p, xs, rfl, there, b, _, rfl, bag, by omega, by omega, fun H' v but bag' lo hi => ?_⟩
    obtain ⟨n, rfl⟩ := Int.eq_ofNat_of_zero_le lo
    have lt : n < xs.length := by omega
    rcases there with t | t
    · exact .inl ⟨p, xs, _, xs[n], rfl, rfl, but.l apart t, atI_nat (by simp [lt]), q H' _ (List.getElem_mem lt) but bag'⟩
    · exact .inr ⟨p, xs, _, xs[n], rfl, rfl, but.t apart t, atI_nat (by simp [lt]), q H' _ (List.getElem_mem lt) but bag'⟩
/-! ### alike -/
theorem scAlike : FnScope ["found", "due"] ["found", "due"] (defScope sAlike) := ⟨rfl, rfl, rfl, by decide +kernel, rfl, by decide +kernel, by decide +kernel⟩
def spAlike (K : PySem.W.Frag) : Sp := fun vs H Q _ => ∃ (x y : V) (d : PyData), vs = [x, y] ∧ Dat K H x d ∧ Dat K H y d ∧ Shows d ∧ d.depth ≤ 60 ∧ Q (.bl true) H
theorem ok_alike {f : Addr} {fd : FuncData} (F : At K mg "_law_alike" sAlike ["found", "due"] f fd) (mr : mg "repr" = none) : FnG P w K mg base 1 f fd ["found", "due"] (spAlike K) := by
  refine okG F.fn scAlike (fun vs H Q E h => ?_) (fun cdv A outer s H vs Q E hr gd h => ?_)
  · obtain ⟨x, y, d, rfl, _⟩ := h
    rfl
  · obtain ⟨x, y, d, rfl, dx, dy, sh, deep, q⟩ := h
    refine ⟨_, pss_one (ps_ret (pe_and (pe_cmpR (op_eqDat hr.units) (pv 0) (pv 1) (nomark _)) (pe_one (pe_cmpR op_eq (pe_callB (call_reprD hr.units gd) (by rfl) mr (by decide +kernel) (pa_cons (pv 0) pa_nil))
      (pe_callB (call_reprD hr.units gd) (by rfl) mr (by decide +kernel) (pa_cons (pv 1) pa_nil)) (nomark _))))), ?_⟩
    refine ⟨_, rfl, _, rfl, d, dx, dy, deep, _, rfl, iteT ⟨_, rfl, x, d, rfl, dx, sh, deep, _, rfl, y, d, rfl, dy, sh, deep, rfl, ?_⟩⟩
    have e : decide (V.str d.shown = V.str d.shown) = true := decide_eq_true rfl
    rw [e]
    exact q
end
end K24

namespace K24
open PySem PySem.Spec PyProof.Rows L2 Vd Evl
theorem But.free {b p : Addr} {H H' : Hp} (x : But b H H') (bag : BagAt H' b) (n : H' p = none) : p ≠ b ∧ H p = none := by
  obtain ⟨_, _, _, _, _, e, _⟩ := bag
  have ne : p ≠ b := fun z => by
    rw [z, e] at n
    cases n
  refine ⟨ne, ?_⟩
  cases e2 : H p with
  | none => rfl
  | some o =>
    rw [x.1 p o ne e2] at n
    cases n
theorem BagAt.new {H : Hp} {b p : Addr} {o : HO} (x : BagAt H b) (n : H p = none) : BagAt (upd H p o) b := by
  obtain ⟨x, y, z, c, ns, e1, e2, few⟩ := x
  exact ⟨x, y, z, c, ns, same_new n _ _ e1, same_new n _ _ e2, few⟩
theorem But.put {b q : Addr} {H G : Hp} {o : HO} (x : But b H G) (q0 : H q = none) (qb : q ≠ b) : But b H (L2.upd G q o) := ⟨fun p u ne e => by
  rw [upd_ne (ne_of_none e q0)]
  exact x.1 p u ne e, fun i j k c e => by
  obtain ⟨i', j', k', e'⟩ := x.2 i j k c e
  exact ⟨i', j', k', by rw [upd_ne qb.symm]; exact e'⟩⟩
theorem BagAt.but {H G : Hp} {b : Addr} (h : BagAt H b) (s : But b H G) : BagAt G b := by
  obtain ⟨x, y, z, c, ns, e1, e2, e3⟩ := h
  obtain ⟨x', y', z', e⟩ := s.2 _ _ _ _ e1
  exact ⟨x', y', z', c, ns, e, s.1 _ _ (bag_apart e1 e2) e2, e3⟩
/-- data beside the bag -/
def Dt (K : PySem.W.Frag) (b : Addr) (H : Hp) (v : V) (d : PyData) : Prop := Dat K (del H b) v d
theorem del_but {b : Addr} {H H' : Hp} (s : But b H H') : ∀ p o, del H b p = some o → del H' b p = some o := fun p o e => by
  by_cases ne : p = b
  · rw [ne, del_same] at e
    cases e
  · rw [del_ne ne] at e ⊢
    exact s.1 p o ne e
theorem Dt.but {K : PySem.W.Frag} {b : Addr} {H H' : Hp} {v : V} {d : PyData} (s : But b H H') (h : Dt K b H v d) : Dt K b H' v d := Dat.up (del_but s) h
theorem Dt.dat {K : PySem.W.Frag} {b : Addr} {H : Hp} {v : V} {d : PyData} (h : Dt K b H v d) : Dat K H v d := Dat.up (fun p o e => by
  by_cases ne : p = b
  · rw [ne, del_same] at e
    cases e
  · rwa [del_ne ne] at e) h
section
variable {P : Program} {w : World} {K : PySem.W.Frag} {mg : Str → Option Value} {base : Heap}
/-! ### a list in a drawn order -/
abbrev sMixed : Stmt := topS 21
theorem scMixed : FnScope ["bag", "things", "found", "thing"] ["bag", "things"] (defScope sMixed) := ⟨rfl, rfl, rfl, by decide +kernel, rfl, by decide +kernel, by decide +kernel⟩
def spMixed (K : PySem.W.Frag) : Sp := fun vs H Q _ => ∃ (b p : Addr) (xs : List V), vs = [.ref b, .ref p] ∧ BagAt H b ∧ SqL K H p xs ∧ p ≠ b ∧ xs.length ≤ 1000 ∧
  ∀ H' q ys, But b H H' → BagAt H' b → H q = none → q ≠ b → H' q = some (.lst ys) → ys.Perm xs → Q (.ref q) H'
theorem ok_mixed {f fT : Addr} {fd fdT : FuncData} (F : At K mg "_law_mixed" sMixed ["bag", "things"] f fd) (T : At K mg "_law_take" sTake ["bag", "many"] fT fdT) (mi : mg "int" = none) (ml : mg "len" = none) :
    FnOk P w K mg base CX0 2 f fd ["bag", "things"] (spMixed K) := by
  have GT : FnOk P w K mg base CX0 1 fT fdT ["bag", "many"] spTake := ok_take T.fn mi
  refine F.fn.ok scMixed (fun vs H Q E h => ?_) (fun cdv A outer s H vs Q E hr h => ?_)
  · obtain ⟨b, p, xs, rfl, _⟩ := h
    rfl
  · obtain ⟨b, p, xs, rfl, bag, there, apart, few, fin⟩ := h
    have nd := scMixed.nd
    refine ⟨_, pss_cons (ps_set (i := 2) nd rfl (Or.inl rfl) (pe_lst pa_nil))
      (pss_cons (ps_for PassesOwn.never rfl (pi_list (pv 1)) (pg_name (i := 3) nd rfl (Or.inl rfl))
        (pss_one (ps_expr (pe_bm PySem.F.plainAttrs_list PySem.F.slot_list_insert PySem.F.type_list_insert mt_insert (pv 2)
          (pa_cons (pe_call GT hr (by rfl) T.g T.fn.kp T.b .nil pass0 (pa_cons (pv 0) (pa_cons (pe_op op_add (pe_callB call_len_seq (by rfl) ml PySem.boot_len (pa_cons (pv 2) pa_nil)) pe_int) pa_nil))) (pa_cons (pv 3) pa_nil))))))
      (pss_one (ps_ret (pv 2)))), ?_⟩
    refine ⟨Nat.zero_le _, fun q nq => ?_⟩
    obtain ⟨qb, q0⟩ := But.free (But.refl b H) bag nq
    refine ⟨_, rfl, p, rfl, ⟨_, (But.of (same_new nq)).l apart there⟩, for_list (K := K) (a := p) (xs := xs) (fun i σ' G => ∃ (ys : List V) (v3 : Option V), σ' = ([some (.ref b), some (.ref p), some (.ref q), v3] : L2.St) ∧
      G q = some (.lst ys) ∧ ys.Perm (xs.take i) ∧ But b H G) ⟨[], none, rfl, upd_same, by simp, But.of (same_new nq)⟩
      (fun i σ' G _ ⟨_, _, _, _, _, s⟩ => s.l apart there) ?_ ?_⟩
    · rintro i x _ G at_i ⟨ys, v3, rfl, at_q, perm, s⟩
      have bag' := bag.but s
      have lt : i < xs.length := (List.getElem?_eq_some_iff.mp at_i).1
      have len : ys.length = i := by rw [perm.length_eq, List.length_take]; omega
      refine ⟨_, rfl, .inl ⟨rfl, _, SqL.of at_q⟩, ?_⟩
      refine ⟨_, rfl, _, rfl, q, ys, rfl, .inl (SqL.of at_q), _, _, rfl, rfl, b, _, rfl, bag', by omega, by omega, fun G1 v but1 bag1 v0 v1 => ?_⟩
      have at_q1 := but1.1 _ _ qb at_q
      refine ⟨_, rfl, q, ys, v, x, rfl, rfl, at_q1, small1000 (by omega), v0, by omega, ?_⟩
      have e1 : xs.take (i + 1) = xs.take i ++ [x] := by
        rw [List.take_succ, at_i]
        rfl
      refine ⟨_, _, rfl, upd_same, ?_, (s.trans but1).put q0 qb⟩
      · rw [e1]
        have e2 : (ys.take v.toNat ++ [x] ++ ys.drop v.toNat).Perm (ys ++ [x]) := by
          have e3 : ys.take v.toNat ++ ys.drop v.toNat = ys := List.take_append_drop _ _
          have e4 : (ys.take v.toNat ++ [x] ++ ys.drop v.toNat).Perm (ys.take v.toNat ++ ys.drop v.toNat ++ [x]) := by
            rw [List.append_assoc, List.append_assoc]
            exact List.Perm.append_left _ List.perm_append_comm
          rwa [e3] at e4
        exact e2.trans (perm.append_right _)
    · rintro _ G ⟨ys, v3, rfl, at_q, perm, s⟩
      rw [List.take_length] at perm
      exact ⟨_, rfl, fin G q ys s (bag.but s) q0 qb at_q perm⟩
end
end K24

namespace K24
open PySem PySem.Spec PyProof.Rows L2 Vd Evl
theorem DatAll.snoc2 {K : PySem.W.Frag} {H : Hp} {v : V} {d : PyData} {vs : List V} {ds : List PyData} (a : DatAll K H vs ds) (h : Dat K H v d) : DatAll K H (vs ++ [v]) (ds ++ [d]) := DatAll.snoc h a
theorem dats_len {K : PySem.W.Frag} {G : Hp} : ∀ {vs : List V} {ds : List PyData}, DatAll K G vs ds → vs.length = ds.length
  | _, _, .nil => rfl
  | _, _, .cons _ b => by rw [List.length_cons, List.length_cons, dats_len b]
theorem DatAll.but {K : PySem.W.Frag} {b : Addr} {H H' : Hp} {vs : List V} {ds : List PyData} (s : But b H H') (h : DatAll K (del H b) vs ds) : DatAll K (del H' b) vs ds := DatAll.up (del_but s) h
/-- all but the bag and one list that is being filled -/
def del2 (G : Hp) (b D : Addr) : Hp := del (del G b) D
theorem del2_sub {G : Hp} {b D : Addr} : ∀ p o, del2 G b D p = some o → del G b p = some o := fun p o e => by
  by_cases ne : p = D
  · rw [ne] at e
    rw [show del2 G b D D = none from del_same] at e
    cases e
  · rwa [show del2 G b D p = del G b p from del_ne ne] at e
theorem del2_up {G G' : Hp} {b D : Addr} {o' : HO} (s : But b G G') (Db : D ≠ b) : ∀ p o, del2 G b D p = some o → del2 (upd G' D o') b D p = some o := fun p o e => by
  by_cases nD : p = D
  · rw [nD] at e
    rw [show del2 G b D D = none from del_same] at e
    cases e
  · have e1 := del2_sub p o e
    have e2 := del_but s p o e1
    rw [show del2 (upd G' D o') b D p = del (upd G' D o') b p from del_ne nD]
    by_cases nb : p = b
    · rw [nb, del_same] at e2
      cases e2
    · rw [del_ne nb] at e2 ⊢
      rw [upd_ne nD]
      exact e2
theorem del2_at {G : Hp} {b D p : Addr} {o : HO} (pb : p ≠ b) (pD : p ≠ D) (e : G p = some o) : del2 G b D p = some o := by
  rw [show del2 G b D p = del G b p from del_ne pD, del_ne pb]
  exact e
/-- pairs of ints as data -/
def pairD (x : Int × Int) : PyData := .tuple [.int x.1, .int x.2]
def pursesD (ps : List (Int × Int)) : PyData := .tuple (ps.map pairD)
def PurseOk (most : Int) (x : Int × Int) : Prop := 1 ≤ x.1 ∧ x.1 ≤ most ∧ 0 ≤ x.2 ∧ x.2 ≤ 2
theorem dt_at {b p : Addr} {H : Hp} {o : HO} (ne : p ≠ b) (e : H p = some o) : del H b p = some o := by
  rw [del_ne ne]
  exact e
section
variable {P : Program} {w : World} {K : PySem.W.Frag} {mg : Str → Option Value} {base : Heap}
abbrev sFirst : Stmt := topS 26
abbrev sPur : Stmt := topS 25
abbrev sNames : Stmt := topS 23
abbrev sIsInt : Stmt := topS 24
theorem scFirst : FnScope ["bag", "room"] ["bag", "room"] (defScope sFirst) := ⟨rfl, rfl, rfl, by decide +kernel, rfl, by decide +kernel, by decide +kernel⟩
theorem scPur : FnScope ["bag", "most", "many", "turn"] ["bag", "most"] (defScope sPur) := ⟨rfl, rfl, rfl, by decide +kernel, rfl, by decide +kernel, by decide +kernel⟩
def spFirst : Sp := fun vs H Q _ => ∃ (b : Addr) (room : Int), vs = [.ref b, .int room] ∧ BagAt H b ∧ 0 ≤ room ∧ room < 1000000 ∧ ∀ H' i, But b H H' → 0 ≤ i → i ≤ room → Q (.int i) H'
section
variable {fT fS : Addr} {fdT fdS : FuncData} (T : At K mg "_law_take" sTake ["bag", "many"] fT fdT) (S : At K mg "_law_some" sSome ["bag", "things"] fS fdS) (mi : mg "int" = none) (ml : mg "len" = none)
include T S mi ml
theorem ok_first {f : Addr} {fd : FuncData} (F : At K mg "_law_first" sFirst ["bag", "room"] f fd) : FnOk P w K mg base CX0 3 f fd ["bag", "room"] spFirst := by
  have GT : FnOk P w K mg base CX0 1 fT fdT ["bag", "many"] spTake := ok_take T.fn mi
  have GS : FnOk P w K mg base CX0 2 fS fdS ["bag", "things"] (spSome K) := ok_some S T mi ml
  refine F.fn.ok scFirst (fun vs H Q E h => ?_) (fun cdv A outer s H vs Q E hr h => ?_)
  · obtain ⟨b, room, rfl, _⟩ := h
    rfl
  · obtain ⟨b, room, rfl, bag, r0, r1, fin⟩ := h
    have nd := scFirst.nd
    have hr1 : Room 1 _ := hr.mono (by decide)
    refine ⟨_, pss_one (ps_ret (pe_call GS hr (by rfl) S.g S.fn.kp S.b .nil pass0 (pa_cons (pv 0) (pa_cons (pe_lst (pa_cons (pv 1) (pa_cons (pv 1) (pa_cons pe_int
      (pa_cons (pe_call GT hr1 (by rfl) T.g T.fn.kp T.b .nil pass0 (pa_cons (pv 0) (pa_cons (pe_op op_add (pv 1) pe_int) pa_nil))) pa_nil))))) pa_nil)))), ?_⟩
    refine ⟨_, rfl, _, rfl, _, rfl, _, rfl, _, rfl, _, _, rfl, rfl, b, _, rfl, bag, by omega, by omega, fun G1 v but1 bag1 v0 v1 => ?_⟩
    refine ⟨len_line (by show 4 ≤ 100000; decide), fun p np => ?_⟩
    have pb := (But.free (But.refl b G1) bag1 np).1
    refine ⟨b, p, _, rfl, bag1.new np, .inl (SqL.of upd_same), pb, by show 0 < 4; decide, by show 4 < 1073741824; decide, fun G2 x mem but2 bag2 => ?_⟩
    obtain ⟨i, rfl, i0, i1⟩ : ∃ i, x = V.int i ∧ 0 ≤ i ∧ i ≤ room := by
      simp only [List.mem_cons, List.not_mem_nil, or_false] at mem
      rcases mem with e | e | e | e
      · exact ⟨_, e, r0, by omega⟩
      · exact ⟨_, e, r0, by omega⟩
      · exact ⟨_, e, by omega, r0⟩
      · exact ⟨_, e, v0, by omega⟩
    exact fin G2 i ((but1.new np).trans but2) i0 i1
def spPur (K : PySem.W.Frag) : Sp := fun vs H Q _ => ∃ (b : Addr) (most : Int), vs = [.ref b, .int most] ∧ BagAt H b ∧ 1 ≤ most ∧ most < 1000000 ∧
  ∀ H' p ps, But b H H' → H p = none → Dt K b H' (.ref p) (pursesD ps) → ps.length ≤ 2 → (∀ x ∈ ps, PurseOk most x) → Q (.ref p) H'
theorem ok_pur {f : Addr} {fd : FuncData} (F : At K mg "_law_purses" sPur ["bag", "most"] f fd) (mt : mg "tuple" = none) (mr : mg "range" = none) : FnOk P w K mg base CX0 3 f fd ["bag", "most"] (spPur K) := by
  have GT : FnOk P w K mg base CX0 1 fT fdT ["bag", "many"] spTake := ok_take T.fn mi
  have GS : FnOk P w K mg base CX0 2 fS fdS ["bag", "things"] (spSome K) := ok_some S T mi ml
  have bt : bootBuiltins "tuple" = some (.type "tuple") := by decide +kernel
  refine F.fn.ok scPur (fun vs H Q E h => ?_) (fun cdv A outer s H vs Q E hr h => ?_)
  · obtain ⟨b, most, rfl, _⟩ := h
    rfl
  · obtain ⟨b, most, rfl, bag, m0, m1, fin⟩ := h
    have nd := scPur.nd
    have hr1 : Room 1 _ := hr.mono (by decide)
    refine ⟨_, pss_cut (ps_set (i := 2) nd rfl (Or.inl rfl) (pe_call GS hr (by rfl) S.g S.fn.kp S.b .nil pass0 (pa_cons (pv 0) (pa_cons (pe_lst (pa_cons pe_int (pa_cons pe_int (pa_cons pe_int (pa_cons pe_int (pa_cons pe_int pa_nil)))))) pa_nil))))
      (pss_one (ps_ret (pe_callTy call_tuple_of (by rfl) mt bt (pa_cons
        (pe_lc (own := [("turn", 3)]) (g := gName 3) (tt := tYes) rfl nd (pi_range1 (by rfl) mr (pa_cons (pv 2) pa_nil)) (blkOk_by (N := ["bag", "most", "many", "turn"]) (sc := defScope sPur) (by decide +kernel))
          (fun _ _ _ _ _ => pg_name (i := 3) nd rfl (Or.inl rfl)) (fun _ _ _ _ _ => pts_nil)
          (fun _ _ _ _ _ => pe_tup (pa_cons (pe_op op_add pe_int (pe_call GT hr1 (by rfl) T.g T.fn.kp T.b .nil pass0 (pa_cons (pv 0) (pa_cons (pv 1) pa_nil))))
            (pa_cons (pe_call GS hr (by rfl) S.g S.fn.kp S.b .nil pass0 (pa_cons (pv 0) (pa_cons (pe_lst (pa_cons pe_int (pa_cons pe_int (pa_cons pe_int (pa_cons pe_int (pa_cons pe_int pa_nil)))))) pa_nil))) pa_nil)))) pa_nil)))), ?_⟩
    refine ⟨fun σ' G => ∃ n : Nat, σ' = ([some (.ref b), some (.int most), some (.int n), none] : L2.St) ∧ n ≤ 2 ∧ But b H G, ?_, ?_⟩
    · refine ⟨_, rfl, len_line (by show 5 ≤ 100000; decide), fun p np => ?_⟩
      have pb := (But.free (But.refl b H) bag np).1
      refine ⟨b, p, _, rfl, bag.new np, .inl (SqL.of upd_same), pb, by show 0 < 5; decide, by show 5 < 1073741824; decide, fun G2 x mem but2 bag2 => ?_⟩
      have s2 := ((But.refl b H).new np).trans but2
      simp only [List.mem_cons, List.not_mem_nil, or_false] at mem
      rcases mem with e | e | e | e | e <;> subst e
      · exact ⟨1, rfl, by decide, s2⟩
      · exact ⟨0, rfl, by decide, s2⟩
      · exact ⟨1, rfl, by decide, s2⟩
      · exact ⟨1, rfl, by decide, s2⟩
      · exact ⟨2, rfl, by decide, s2⟩
    rintro _ G ⟨n, rfl, n2, sG⟩
    have bagG := bag.but sG
    refine ⟨_, rfl, n, rfl, by omega, by omega, fun D nD => ?_⟩
    obtain ⟨Db, D0⟩ := But.free sG bagG nD
    rw [Int.toNat_natCast]
    refine lc_range (lo := 0) (n := n) (fun i G' => ∃ (xs : List V) (ps : List (Int × Int)), G' D = some (.lst xs) ∧ But b H G' ∧ DatAll K (del2 G' b D) xs (ps.map pairD) ∧ ps.length = i ∧ ∀ x ∈ ps, PurseOk most x) ?_ ?_ ?_
    · exact ⟨[], [], upd_same, sG.new nD, .nil, rfl, fun x m => nomatch m⟩
    · rintro i G' lt ⟨xs, ps, at_D, sG', all, len, each⟩
      have bag' := bag.but sG'
      have lenx : xs.length = i := by
        rw [dats_len all, List.length_map, len]
      refine ⟨rfl, _, rfl, _, rfl, b, most, rfl, bag', by omega, by omega, fun G1 v but1 bag1 v0 v1 => ?_⟩
      refine ⟨_, _, rfl, rfl, _, rfl, len_line (by show 5 ≤ 100000; decide), fun p np => ?_⟩
      have pb := (But.free (But.refl b G1) bag1 np).1
      refine ⟨b, p, _, rfl, bag1.new np, .inl (SqL.of upd_same), pb, by show 0 < 5; decide, by show 5 < 1073741824; decide, fun G2 x mem but2 bag2 => ?_⟩
      have s2 := (but1.new np).trans but2
      obtain ⟨j, rfl, j0, j1⟩ : ∃ j, x = V.int j ∧ 0 ≤ j ∧ j ≤ 2 := by
        simp only [List.mem_cons, List.not_mem_nil, or_false] at mem
        rcases mem with e | e | e | e | e <;> subst e
        · exact ⟨0, rfl, by decide, by decide⟩
        · exact ⟨0, rfl, by decide, by decide⟩
        · exact ⟨1, rfl, by decide, by decide⟩
        · exact ⟨2, rfl, by decide, by decide⟩
        · exact ⟨1, rfl, by decide, by decide⟩
      refine ⟨len_line (by show 2 ≤ 100000; decide), fun t nt => ?_⟩
      obtain ⟨tb, t0⟩ := But.free (But.refl b G2) bag2 nt
      have s3 : But b G2 (upd G2 t (.tup [.int (1 + v), .int j])) := (But.refl b G2).new nt
      have sall := s2.trans s3
      have at_D2 := sall.1 _ _ Db at_D
      refine ⟨xs, at_D2, small1000 (by omega), xs ++ [.ref t], ps ++ [(1 + v, j)], upd_same, ?_, ?_, by simp [len], ?_⟩
      · exact (sG'.trans sall).put D0 Db
      · rw [List.map_append]
        have tD : t ≠ D := fun z => by
          have := s2.1 _ _ Db at_D
          rw [← z, nt] at this
          cases this
        exact DatAll.snoc2 (DatAll.up (del2_up sall Db) all) (.tup (.inl (.inl (del2_at tb tD (by rw [upd_ne tD]; exact upd_same)))) (.cons (.int _) (.cons (.int _) .nil)))
      · intro y m
        rcases List.mem_append.mp m with m | m
        · exact each y m
        · have e : y = (1 + v, j) := by simpa using m
          subst e
          exact ⟨by show (1 : Int) ≤ 1 + v; omega, by show 1 + v ≤ most; omega, j0, j1⟩
    · rintro G' ⟨xs, ps, at_D, sG', all, len, each⟩
      refine ⟨D, xs, rfl, .inl ⟨SqL.of at_D, fun p np => ?_⟩⟩
      have bag' := bag.but sG'
      obtain ⟨pb, p0⟩ := But.free sG' bag' np
      have s3 : But b G' (upd G' p (.tup xs)) := (But.refl b G').new np
      exact fin _ p ps (sG'.trans s3) p0 (.tup (.inl (.inl (dt_at pb upd_same))) (DatAll.but s3 (DatAll.up del2_sub all))) (by omega) each
end
end
end K24

namespace Vd
open PySem PySem.Spec PyProof.Rows L2
/-! ### sorted of tuples that begin with unlike texts -/
/-- a text stands ahead of another one -/
def ahead (x y : Str) : Bool := decide (x.cps.toList < y.cps.toList)
theorem ahead_irrefl (x : Str) : ahead x x = false := decide_eq_false (List.lt_irrefl _)
theorem ahead_swo {α : Type} (k : α → Str) : SrtO.Swo fun v u => ahead (k v) (k u) := by
  constructor
  · intro x y h
    have h' : (k x).cps.toList < (k y).cps.toList := of_decide_eq_true h
    exact decide_eq_false (List.lt_asymm h')
  · intro x y z h g
    have h' : ¬ (k y).cps.toList < (k x).cps.toList := of_decide_eq_false h
    have g' : ¬ (k z).cps.toList < (k y).cps.toList := of_decide_eq_false g
    exact decide_eq_false fun n => h' (List.lt_of_le_of_lt (List.not_lt.mp g') n)
/-- a tuple (text, integer, object) in a heap -/
def Trio (h : Heap) (v : Value) (x : Str) : Prop := ∃ (a p : Addr) (o : Obj) (i : Int) (t u : Tok) (n : Nat), v = .ref a ∧ h.get? a = some o ∧ o.cls = .type "tuple" ∧ o.data = .seq #[.str x t, .int i u, .ref p] n
section
variable {prog : Program} {w : World} {A : Around} {E : Value → Shared → Prop} {s : Shared}
theorem trio_cmp {vs : List Value} {k : Value → Str} (each : ∀ v ∈ vs, Trio s.heap v (k v)) (inj : ∀ v ∈ vs, ∀ u ∈ vs, k v = k u → v = u) : SrtO.Cmp prog w A s (tuples' true) (fun p => p.1 ∈ vs) (SrtO.lt2 fun v u => ahead (k v) (k u)) := by
  rintro ⟨v, v2⟩ ⟨u, u2⟩ mv mu
  have mv' : v ∈ vs := mv
  have mu' : u ∈ vs := mu
  obtain ⟨a, p, o, i, t1, t2, n, ev, ho, hc, hd⟩ := each v mv'
  obtain ⟨b, q, o', j, t3, t4, n', eu, ho', hc', hd'⟩ := each u mu'
  show wpAny (model prog w) A (keyLt' (tuples' true) v u) (fun r s' => s' = s ∧ r = ahead (k v) (k u)) (fun _ _ => False) s
  have same : k v = k u → a = b := fun e => by
    have := inj v mv' u mu' e
    rw [ev, eu] at this
    exact Value.ref.inj this
  generalize k v = x at hd same ⊢
  generalize k u = y at hd' same ⊢
  subst ev eu
  refine PySem.W.kat_lt ho hd ho' hd' ?_
  show PySem.W.KatLex prog w A true (decide (3 < 3)) _ [(.str x t1, .str y t3), (.int i t2, .int j t4), (.ref p, .ref q)] 0 s
  refine PySem.W.kat_cons (SeqAt.EqAt.str_str x t1 y t3 prog w _ _ (PySem.W.kat_go (fun yes => ?_) (fun nay => ?_)))
  · have e : x = y := by simpa using yes
    have eab := same e
    subst eab
    rw [ho] at ho'
    cases ho'
    rw [hd] at hd'
    cases hd'
    refine PySem.W.kat_yes (PySem.W.kat_cons (SeqAt.EqAt.int_int i t2 i t2 prog w _ _ ?_))
    rw [beq_self_eq_true]
    refine PySem.W.kat_yes (PySem.W.kat_cons ?_)
    refine (eq_of_rc (fun no => absurd rfl no) : EqT prog w A s (.ref p) (.ref p)) _ _ ?_
    refine PySem.W.kat_yes (PySem.W.kat_nil ⟨rfl, ?_⟩)
    rw [ahead_irrefl]
    rfl
  · exact PySem.W.kat_no (oneLt_str ⟨rfl, rfl⟩)
theorem trio_firsts {h : Heap} {k : Value → Str} : ∀ {vs : List Value}, (∀ v ∈ vs, Trio h v (k v)) → ∃ fs : List Value, PySem.W.KatTups h vs fs ∧ fs.length = vs.length ∧ ∀ f ∈ fs, ∃ x t, f = Value.str x t
  | [], _ => ⟨[], .nil, rfl, fun _ no => nomatch no⟩
  | v :: vs, all => by
    obtain ⟨fs, kt, len, tx⟩ := trio_firsts (k := k) (vs := vs) fun u m => all u (.tail _ m)
    obtain ⟨a, p, o, i, t1, t2, n, ev, ho, hc, hd⟩ := all v (.head _)
    subst ev
    refine ⟨.str _ t1 :: fs, .cons ho hc hd rfl kt, by simp [len], fun f m => ?_⟩
    cases m with
    | head => exact ⟨_, _, rfl⟩
    | tail _ m => exact tx f m
theorem trio_sorted {l : Addr} {vs : List Value} {k : Value → Str} {Q : Value → Shared → Prop} (hl : s.heap.IsList l vs.toArray) (few : vs.length ≤ sizeLine) (each : ∀ v ∈ vs, Trio s.heap v (k v)) (inj : ∀ v ∈ vs, ∀ u ∈ vs, k v = k u → v = u)
    (fin : ∀ (h' : Heap) (d : Addr) (out : List Value), SrtO.Srtd (fun v u => ahead (k v) (k u)) out → out.Perm vs → (∀ b o, s.heap.get? b = some o → h'.get? b = some o) → s.heap.objs.size ≤ d → (∃ n, h'.get? d = some (seqObj "list" out.toArray n)) → Q (.ref d) { s with heap := h' }) :
    wpAny (model prog w) A (call (.builtin "sorted") [.ref l]) Q E s := by
  refine SrtO.sorted_ord (ahead_swo k) hl few (fun two h1 a at_a kept => fun h2 keep => ?_) (fun out so st => fin _ _ out so st.perm (fun b o e => sortedAll_old e) (Nat.le_succ _) (sortedAll_at s.heap vs out.toArray))
  have each2 : ∀ v ∈ vs, Trio h2 v (k v) := fun v m => by
    obtain ⟨c, p, o, i, t1, t2, n, ev, ho, hc, hd⟩ := each v m
    obtain ⟨ne, up⟩ := kept c o ho
    exact ⟨c, p, o, i, t1, t2, n, ev, keep c o ne up, hc, hd⟩
  obtain ⟨fs, kt, len, tx⟩ := trio_firsts each2
  refine ⟨tuples' true, fun Q' E' q => ?_, trio_cmp (s := { s with heap := h2 }) each2 inj⟩
  refine PySem.W.kat_kind (T := .type "str") kt (by omega) (fun f m => ?_) (by rfl) q
  obtain ⟨x, t, rfl⟩ := tx f m
  exact PySem.W.Looks.now
end
section
variable {X : Cx}
/-- sorted(xs), xs a list of tuples (text, integer, object), the texts unlike -/
theorem call_sortedN : CallR X (.builtin "sorted") (fun vs H Q => ∃ (a : Addr) (xs : List V) (k : V → Str), vs = [.ref a] ∧ SqL X.K H a xs ∧ (∀ x ∈ xs, ∃ (t p : Addr) (i : Int), x = .ref t ∧ H t = some (.tup [.str (k x), .int i, .ref p])) ∧ (∀ x ∈ xs, ∀ y ∈ xs, k x = k y → x = y) ∧
    ∀ ys q, SrtO.Srtd (fun x y => ahead (k x) (k y)) ys → ys.Perm xs → H q = none → Q (.ref q) (upd H q (.lst ys))) := by
  rintro pins s σ H vs us Q I rel ⟨a, xs, k, rfl, sq, each, inj, fin⟩
  obtain ⟨its, rv, pl, few⟩ := I.list sq
  obtain ⟨u, rfl, ru⟩ := vals1 rel
  cases (show u = Value.ref a from ru)
  obtain ⟨back, refs⟩ := refs_back rv fun x m => let ⟨t, _, _, e, _⟩ := each x m; ⟨t, e⟩
  have mem : ∀ {t : Addr}, Value.ref t ∈ its → V.ref t ∈ xs := fun {t} m => by
    rw [back]
    exact List.mem_map.mpr ⟨_, m, rfl⟩
  refine trio_sorted (k := fun v => k (backV v)) pl.isList (by rw [← rv.length]; exact few) (fun v m => ?_) (fun v m v' m' e => ?_) fun h' d out so perm kept new at_d => ?_
  · obtain ⟨t, rfl⟩ := refs v m
    obtain ⟨t', p, i, e, at_t⟩ := each _ (mem m)
    cases e
    obtain ⟨_, its2, r2, o, ho, hc, n, hd⟩ := I.hok _ _ at_t
    cases r2 with
    | cons r21 r22 =>
      cases r22 with
      | cons r23 r24 =>
        cases r24 with
        | cons r25 r26 =>
          cases r26
          obtain ⟨t1, rfl⟩ := r21
          obtain ⟨t2, rfl⟩ := r23
          cases r25
          exact ⟨t, p, o, i, t1, t2, n, rfl, ho, hc, hd⟩
  · obtain ⟨t, rfl⟩ := refs v m
    obtain ⟨t', rfl⟩ := refs v' m'
    have := inj _ (mem m) _ (mem m') e
    cases this
    rfl
  · have refs2 : ∀ v ∈ out, ∃ t, v = Value.ref t := fun v m => refs v (perm.mem_iff.mp m)
    obtain ⟨n, at_d⟩ := at_d
    have permV : (out.map backV).Perm xs := by
      rw [back]
      exact perm.map _
    refine ⟨.ref d, upd H d (.lst (out.map backV)), I.laid (t' := s.toks) kept new ⟨?_, out, n, vals_back refs2, at_d⟩, rfl, fin _ d (SrtO.srtd_map so) permV (I.hok.fresh new)⟩
    rw [permV.length_eq]
    exact few
end
end Vd

namespace K24
open PySem PySem.Spec PyProof.Rows L2 Vd Evl
/-! ### a heap without some of its lists -/
def dls (S : List Addr) (G : Hp) : Hp := fun p => if p ∈ S then none else G p
theorem dls_at {S : List Addr} {G : Hp} {p : Addr} {o : HO} (n : p ∉ S) (e : G p = some o) : dls S G p = some o := by
  unfold dls
  rw [if_neg n]
  exact e
theorem dls_sub {S : List Addr} {G : Hp} : ∀ p o, dls S G p = some o → p ∉ S ∧ G p = some o := fun p o e => by
  unfold dls at e
  split at e
  · cases e
  · rename_i n
    exact ⟨n, e⟩
def OffS (S : List Addr) (G G' : Hp) : Prop := ∀ p o, p ∉ S → G p = some o → G' p = some o
theorem OffS.dls {S : List Addr} {G G' : Hp} (s : OffS S G G') : ∀ p o, dls S G p = some o → dls S G' p = some o := fun p o e => by
  obtain ⟨n, e1⟩ := dls_sub p o e
  exact dls_at n (s p o n e1)
theorem OffS.trans {S : List Addr} {G G1 G2 : Hp} (x : OffS S G G1) (y : OffS S G1 G2) : OffS S G G2 := fun p o n e => y p o n (x p o n e)
theorem OffS.but {S : List Addr} {b : Addr} {G G' : Hp} (m : b ∈ S) (s : But b G G') : OffS S G G' := fun p o n e => s.1 p o (fun z => n (z ▸ m)) e
theorem OffS.put {S : List Addr} {p : Addr} {G : Hp} {o : HO} (m : p ∈ S) : OffS S G (upd G p o) := fun q u n e => by
  rw [upd_ne (fun z : q = p => n (by rw [z]; exact m))]
  exact e
theorem OffS.same {S : List Addr} {G G' : Hp} (s : Same G G') : OffS S G G' := fun p o _ e => s p o e

/-! ### halls -/
abbrev Mach := Str × Int × List (Int × Int)
abbrev Belt := Str × Str × Int × Int
def machD (m : Mach) : PyData := .tuple [.str m.1, .int m.2.1, pursesD m.2.2]
def beltD (m : Belt) : PyData := .tuple [.str m.1, .str m.2.1, .int m.2.2.1, .int m.2.2.2]
structure Hall where
  ms : List Mach
  bs : List Belt
  fl : Str
def hallD (h : Hall) : PyData := .tuple [.tuple (h.ms.map machD), .tuple (h.bs.map beltD), .str h.fl]
/-- from one machine one comes to another along belts, whichever way these lead -/
inductive Reach (bs : List Belt) (x : Str) : Str → Prop
  | here : Reach bs x x
  | ahead {y : Str} {m : Belt} : Reach bs x y → m ∈ bs → m.1 = y → Reach bs x m.2.1
  | back {y : Str} {m : Belt} : Reach bs x y → m ∈ bs → m.2.1 = y → Reach bs x m.1
theorem Reach.more {bs cs : List Belt} {x y : Str} (sub : ∀ m ∈ bs, m ∈ cs) (h : Reach bs x y) : Reach cs x y := by
  induction h with
  | here => exact .here
  | ahead _ m e ih => exact .ahead ih (sub _ m) e
  | back _ m e ih => exact .back ih (sub _ m) e
def eight : List Str := ["cap", "box", "wash", "sort", "lab", "a", "tray", "z"]
def MachOk (most : Int) (m : Mach) : Prop := 1 ≤ m.2.1 ∧ m.2.1 ≤ 10 ∧ m.2.2.length ≤ 2 ∧ ∀ x ∈ m.2.2, PurseOk most x
def BeltOk (ns : List Str) (m : Belt) : Prop := m.1 ≠ m.2.1 ∧ m.1 ∈ ns ∧ m.2.1 ∈ ns ∧ 1 ≤ m.2.2.1 ∧ m.2.2.1 ≤ 5 ∧ 0 ≤ m.2.2.2 ∧ m.2.2.2 ≤ m.2.2.1
structure Hall.Ok (most : Int) (h : Hall) : Prop where
  asc : (h.ms.map (·.1)).Pairwise fun x y => ahead x y = true
  ms : ∀ m ∈ h.ms, MachOk most m
  names : ∀ m ∈ h.ms, m.1 = h.fl ∨ m.1 ∈ eight
  fl : h.fl = "fill" ∨ h.fl = "m"
  pace : ∃ p : Int, (h.fl, p, []) ∈ h.ms ∧ 2 ≤ p ∧ p ≤ 9
  bs : ∀ m ∈ h.bs, BeltOk (h.ms.map (·.1)) m
  joined : ∀ m ∈ h.ms, Reach h.bs h.fl m.1
  few : h.ms.length ≤ 9
  fewB : h.bs.length ≤ 10
/-- a machine that stands in a heap, beside S -/
def MachAt (K : PySem.W.Frag) (S : List Addr) (G : Hp) (v : V) (m : Mach) : Prop := ∃ t p : Addr, v = .ref t ∧ t ∉ S ∧ G t = some (.tup [.str m.1, .int m.2.1, .ref p]) ∧ Dat K (dls S G) (.ref p) (pursesD m.2.2)
theorem MachAt.off {K : PySem.W.Frag} {S : List Addr} {G G' : Hp} {v : V} {m : Mach} (s : OffS S G G') (h : MachAt K S G v m) : MachAt K S G' v m := by
  obtain ⟨t, p, e, n, a, d⟩ := h
  exact ⟨t, p, e, n, s _ _ n a, Dat.up s.dls d⟩
theorem MachAt.dat {K : PySem.W.Frag} {S : List Addr} {G : Hp} {v : V} {m : Mach} (h : MachAt K S G v m) : Dat K (dls S G) v (machD m) := by
  obtain ⟨t, p, rfl, n, a, d⟩ := h
  exact .tup (.inl (.inl (dls_at n a))) (.cons (.str _) (.cons (.int _) (.cons d .nil)))
inductive MachsAt (K : PySem.W.Frag) (S : List Addr) (G : Hp) : List V → List Mach → Prop
  | nil : MachsAt K S G [] []
  | cons {v : V} {m : Mach} {vs : List V} {ms : List Mach} : MachAt K S G v m → MachsAt K S G vs ms → MachsAt K S G (v :: vs) (m :: ms)
theorem MachsAt.off {K : PySem.W.Frag} {S : List Addr} {G G' : Hp} (s : OffS S G G') : ∀ {vs : List V} {ms : List Mach}, MachsAt K S G vs ms → MachsAt K S G' vs ms
  | _, _, .nil => .nil
  | _, _, .cons a r => .cons (a.off s) (r.off s)
theorem MachsAt.snoc {K : PySem.W.Frag} {S : List Addr} {G : Hp} {v : V} {m : Mach} (h : MachAt K S G v m) : ∀ {vs : List V} {ms : List Mach}, MachsAt K S G vs ms → MachsAt K S G (vs ++ [v]) (ms ++ [m])
  | _, _, .nil => .cons h .nil
  | _, _, .cons a r => .cons a (r.snoc h)
theorem MachsAt.len {K : PySem.W.Frag} {S : List Addr} {G : Hp} : ∀ {vs : List V} {ms : List Mach}, MachsAt K S G vs ms → vs.length = ms.length
  | _, _, .nil => rfl
  | _, _, .cons _ r => by rw [List.length_cons, List.length_cons, r.len]
theorem MachsAt.mem {K : PySem.W.Frag} {S : List Addr} {G : Hp} : ∀ {vs : List V} {ms : List Mach}, MachsAt K S G vs ms → ∀ v ∈ vs, ∃ m ∈ ms, MachAt K S G v m
  | _, _, .nil, v, no => nomatch no
  | _, _, .cons a r, v, h => by
    cases h with
    | head => exact ⟨_, .head _, a⟩
    | tail _ h =>
      obtain ⟨m, x, y⟩ := r.mem v h
      exact ⟨m, .tail _ x, y⟩
theorem MachsAt.dats {K : PySem.W.Frag} {S : List Addr} {G : Hp} : ∀ {vs : List V} {ms : List Mach}, MachsAt K S G vs ms → DatAll K (dls S G) vs (ms.map machD)
  | _, _, .nil => .nil
  | _, _, .cons a r => .cons a.dat r.dats
theorem MachsAt.perm {K : PySem.W.Frag} {S : List Addr} {G : Hp} {vs ws : List V} (p : ws.Perm vs) : ∀ {ms : List Mach}, MachsAt K S G vs ms → ∃ ns, ns.Perm ms ∧ MachsAt K S G ws ns := by
  induction p with
  | nil => intro ms h; cases h; exact ⟨[], .nil, .nil⟩
  | cons x _ ih =>
    intro ms h
    cases h with
    | cons a r =>
      obtain ⟨ns, p', r'⟩ := ih r
      exact ⟨_, p'.cons _, .cons a r'⟩
  | swap x y l =>
    intro ms h
    cases h with
    | cons a r =>
      cases r with
      | cons a' r => exact ⟨_, .swap _ _ _, .cons a' (.cons a r)⟩
  | trans _ _ ih1 ih2 =>
    intro ms h
    obtain ⟨ns, p1, r1⟩ := ih2 h
    obtain ⟨ns', p2, r2⟩ := ih1 r1
    exact ⟨ns', p2.trans p1, r2⟩
theorem dats_perm {K : PySem.W.Frag} {G : Hp} {α : Type} {f : α → PyData} {vs ws : List V} (p : ws.Perm vs) : ∀ {ms : List α}, DatAll K G vs (ms.map f) → ∃ ns : List α, ns.Perm ms ∧ DatAll K G ws (ns.map f) := by
  induction p with
  | nil =>
    intro ms h
    cases ms with
    | nil => exact ⟨[], .nil, .nil⟩
    | cons m ms => cases h
  | cons x _ ih =>
    intro ms h
    cases ms with
    | nil => cases h
    | cons m ms =>
      cases h with
      | cons a r =>
        obtain ⟨ns, p', r'⟩ := ih r
        exact ⟨m :: ns, p'.cons _, .cons a r'⟩
  | swap x y l =>
    intro ms h
    match ms, h with
    | m :: n :: ms, .cons a (.cons a' r) => exact ⟨n :: m :: ms, .swap _ _ _, .cons a' (.cons a r)⟩
  | trans _ _ ih1 ih2 =>
    intro ms h
    obtain ⟨ns, p1, r1⟩ := ih2 h
    obtain ⟨ns', p2, r2⟩ := ih1 r1
    exact ⟨ns', p2.trans p1, r2⟩
end K24

namespace K24
open PySem PySem.Spec PyProof.Rows L2 Vd Evl
abbrev sWeb : Stmt := topS 27
def webN : List Str := ["bag", "machines", "most", "names", "filler", "pace", "found", "belts", "joined", "name", "time", "room", "other", "first", "turn", "start", "end"]
theorem scWeb : FnScope webN ["bag", "machines", "most"] (defScope sWeb) := ⟨rfl, rfl, rfl, by decide +kernel, rfl, by decide +kernel, by decide +kernel⟩
section
variable {P : Program} {w : World} {K : PySem.W.Frag} {mg : Str → Option Value} {base : Heap}
/-- the state while a hall is drawn: found holds ms, belts bs, joined jn -/
structure Fills (K : PySem.W.Frag) (H : Hp) (b pf pb pj : Addr) (most : Int) (fl : Str) (pace : Int) (jf jn : List Str) (ms : List Mach) (bs : List Belt) (G : Hp) : Prop where
  but : But b H G
  at_f : ∃ fv, G pf = some (.lst fv) ∧ MachsAt K [b, pf, pb, pj] G fv ms
  at_b : ∃ bv, G pb = some (.lst bv) ∧ DatAll K (dls [b, pf, pb, pj] G) bv (bs.map beltD)
  at_j : G pj = some (.lst (jn.map V.str))
  names : ms.map (·.1) = jf
  msok : ∀ m ∈ ms, MachOk most m
  bsok : ∀ m ∈ bs, BeltOk jf m
  join : ∀ x ∈ jn, Reach bs fl x
  paced : (fl, pace, []) ∈ ms
structure Lone (H : Hp) (b pf pb pj : Addr) : Prop where
  nf : H pf = none
  nb : H pb = none
  nj : H pj = none
  fb : pf ≠ b
  bb : pb ≠ b
  jb : pj ≠ b
  bf : pb ≠ pf
  jf : pj ≠ pf
  jbb : pj ≠ pb
theorem Fills.step {H G G' : Hp} {b pf pb pj : Addr} {most : Int} {fl : Str} {pace : Int} {jf jn : List Str} {ms : List Mach} {bs : List Belt} (a : Lone H b pf pb pj) (h : Fills K H b pf pb pj most fl pace jf jn ms bs G) (s : But b G G') :
    Fills K H b pf pb pj most fl pace jf jn ms bs G' := by
  have off : OffS [b, pf, pb, pj] G G' := OffS.but (.head _) s
  obtain ⟨fv, f1, f2⟩ := h.at_f
  obtain ⟨bv, b1, b2⟩ := h.at_b
  exact ⟨h.but.trans s, ⟨fv, s.1 _ _ a.fb f1, f2.off off⟩, ⟨bv, s.1 _ _ a.bb b1, DatAll.up off.dls b2⟩, s.1 _ _ a.jb h.at_j, h.names, h.msok, h.bsok, h.join, h.paced⟩
theorem cut_first (xs : List V) (n : Nat) (h : n ≤ xs.length) : cutV xs none (some (n : Int)) = xs.take n := by
  unfold cutV
  have e1 : HT.sIx xs.length 0 none = 0 := rfl
  have e2 : HT.sIx xs.length xs.length (some (n : Int)) = n := by
    rw [HT.sIx_nat]
    omega
  rw [e1, e2, List.drop_zero]
  rfl
/-! ### data without a list -/
mutual
def noList : PyData → Bool
  | .list _ => false
  | .tuple xs => noLists xs
  | .dict kvs => noListk kvs
  | _ => true
def noLists : List PyData → Bool
  | [] => true
  | x :: xs => noList x && noLists xs
def noListk : List (PyData × PyData) → Bool
  | [] => true
  | (_, v) :: r => noList v && noListk r
end
mutual
theorem strip {F F' : Hp} (s : ∀ p o, F p = some o → (∀ xs, o ≠ .lst xs) → F' p = some o) : ∀ {v : V} {d : PyData}, noList d = true → Dat K F v d → Dat K F' v d
  | _, _, _, .non => .non
  | _, _, _, .bl b => .bl b
  | _, _, _, .int i => .int i
  | _, _, _, .str x => .str x
  | _, _, n, .lst _ _ => by cases n
  | _, _, n, .tup a b => by
    refine .tup ?_ (strips s (by simpa [noList] using n) b)
    rcases a with (a | ⟨o, a⟩) | a
    · exact .inl (.inl (s _ _ a fun xs z => by cases z))
    · exact .inl (.inr ⟨o, s _ _ a fun xs z => by cases z⟩)
    · exact .inr a
  | _, _, n, .dic a b => .dic (s _ _ a fun xs z => by cases z) (stripk s (by simpa [noList] using n) b)
theorem strips {F F' : Hp} (s : ∀ p o, F p = some o → (∀ xs, o ≠ .lst xs) → F' p = some o) : ∀ {vs : List V} {ds : List PyData}, noLists ds = true → DatAll K F vs ds → DatAll K F' vs ds
  | _, _, _, .nil => .nil
  | _, _, n, .cons a b => by
    have n' := n
    simp only [noLists, Bool.and_eq_true] at n'
    exact .cons (strip s n'.1 a) (strips s n'.2 b)
theorem stripk {F F' : Hp} (s : ∀ p o, F p = some o → (∀ xs, o ≠ .lst xs) → F' p = some o) : ∀ {vs : List (Key × V)} {ds : List (PyData × PyData)}, noListk ds = true → DatKv K F vs ds → DatKv K F' vs ds
  | _, _, _, .nil => .nil
  | _, _, n, .cons a b => by
    have n' := n
    simp only [noListk, Bool.and_eq_true] at n'
    exact .cons (strip s n'.1 a) (stripk s n'.2 b)
end
theorem purses_noList (ps : List (Int × Int)) : noList (pursesD ps) = true := by
  show noLists (ps.map pairD) = true
  induction ps with
  | nil => rfl
  | cons x xs ih =>
    show (noList (pairD x) && noLists (xs.map pairD)) = true
    rw [ih]
    rfl
def unStr : V → Str
  | .str x => x
  | _ => Str.empty
theorem perm_strs {ys : List V} {xs : List Str} (p : ys.Perm (xs.map V.str)) : ∃ zs : List Str, ys = zs.map V.str ∧ zs.Perm xs := by
  refine ⟨ys.map unStr, ?_, ?_⟩
  · rw [List.map_map]
    have : ∀ y ∈ ys, (V.str ∘ unStr) y = y := fun y m => by
      obtain ⟨x, _, e⟩ := List.mem_map.mp (p.mem_iff.mp m)
      rw [← e]
      rfl
    exact (List.map_id' ys).symm.trans (List.map_congr_left fun y m => (this y m).symm)
  · have := p.map unStr
    rw [List.map_map] at this
    have e : xs.map (unStr ∘ V.str) = xs := (List.map_congr_left (g := id) fun _ _ => rfl).trans (List.map_id xs)
    rwa [e] at this
theorem BeltOk.more {jf : List Str} {x : Str} {m : Belt} (h : BeltOk jf m) : BeltOk (jf ++ [x]) m := ⟨h.1, List.mem_append_left _ h.2.1, List.mem_append_left _ h.2.2.1, h.2.2.2⟩
section
variable {H G : Hp} {b pf pb pj : Addr} {most : Int} {fl : Str} {pace : Int} {jf jn : List Str} {ms : List Mach} {bs : List Belt}
theorem four_off {t : Addr} (h : Fills K H b pf pb pj most fl pace jf jn ms bs G) (bag : BagAt G b) (nt : G t = none) : t ∉ [b, pf, pb, pj] := by
  obtain ⟨fv, f1, _⟩ := h.at_f
  obtain ⟨bv, b1, _⟩ := h.at_b
  have j1 := h.at_j
  simp only [List.mem_cons, List.not_mem_nil, or_false, not_or]
  exact ⟨(But.free (But.refl b G) bag nt).1, (ne_of_none f1 nt).symm, (ne_of_none b1 nt).symm, (ne_of_none j1 nt).symm⟩
theorem Fills.found (a : Lone H b pf pb pj) (h : Fills K H b pf pb pj most fl pace jf jn ms bs G) (bag : BagAt G b) {t p : Addr} {nm : Str} {time : Int} {ps : List (Int × Int)} {fv : List V} (nt : G t = none) (dt : Dt K b G (.ref p) (pursesD ps)) (at_f : G pf = some (.lst fv))
    (mok : MachOk most (nm, time, ps)) : Fills K H b pf pb pj most fl pace (jf ++ [nm]) jn (ms ++ [(nm, time, ps)]) bs (upd (upd G t (.tup [.str nm, .int time, .ref p])) pf (.lst (fv ++ [.ref t]))) := by
  have tn := four_off h bag nt
  obtain ⟨fv', f1, f2⟩ := h.at_f
  rw [at_f] at f1
  cases f1
  obtain ⟨bv, b1, b2⟩ := h.at_b
  have j1 := h.at_j
  have off : OffS [b, pf, pb, pj] G (upd (upd G t (.tup [.str nm, .int time, .ref p])) pf (.lst (fv ++ [.ref t]))) := (OffS.same (same_new nt)).trans (OffS.put (by simp))
  have tf : t ≠ pf := (ne_of_none at_f nt).symm
  have bt : pb ≠ t := ne_of_none b1 nt
  have jt : pj ≠ t := ne_of_none j1 nt
  refine ⟨(h.but.new nt).put a.nf a.fb, ⟨_, upd_same, MachsAt.snoc ⟨t, p, rfl, tn, by rw [upd_ne tf, upd_same], ?_⟩ (f2.off off)⟩, ⟨bv, by rw [upd_ne a.bf, upd_ne bt]; exact b1, DatAll.up off.dls b2⟩, by rw [upd_ne a.jf, upd_ne jt]; exact j1, ?_, ?_, fun m x => (h.bsok m x).more, h.join, List.mem_append_left _ h.paced⟩
  · refine strip (fun q o e no => ?_) (purses_noList ps) dt
    have qb : q ≠ b := fun z => by
      rw [z, del_same] at e
      cases e
    rw [del_ne qb] at e
    refine dls_at ?_ (off q o ?_ e)
    all_goals
      simp only [List.mem_cons, List.not_mem_nil, or_false, not_or]
      refine ⟨qb, fun z => ?_, fun z => ?_, fun z => ?_⟩
      · rw [z, at_f] at e
        cases e
        exact no _ rfl
      · rw [z, b1] at e
        cases e
        exact no _ rfl
      · rw [z, j1] at e
        cases e
        exact no _ rfl
  · rw [List.map_append, h.names]
    rfl
  · intro m x
    rcases List.mem_append.mp x with x | x
    · exact h.msok m x
    · cases x with
      | head => exact mok
      | tail _ no => cases no
theorem Fills.belt (a : Lone H b pf pb pj) (h : Fills K H b pf pb pj most fl pace jf jn ms bs G) (bag : BagAt G b) {t : Addr} {m : Belt} {bv : List V} (nt : G t = none) (at_b : G pb = some (.lst bv)) (ok : BeltOk jf m) :
    Fills K H b pf pb pj most fl pace jf jn ms (bs ++ [m]) (upd (upd G t (.tup [.str m.1, .str m.2.1, .int m.2.2.1, .int m.2.2.2])) pb (.lst (bv ++ [.ref t]))) := by
  have tn := four_off h bag nt
  obtain ⟨fv, f1, f2⟩ := h.at_f
  obtain ⟨bv', b1, b2⟩ := h.at_b
  rw [at_b] at b1
  cases b1
  have j1 := h.at_j
  have off : OffS [b, pf, pb, pj] G (upd (upd G t (.tup [.str m.1, .str m.2.1, .int m.2.2.1, .int m.2.2.2])) pb (.lst (bv ++ [.ref t]))) := (OffS.same (same_new nt)).trans (OffS.put (by simp))
  have tb : t ≠ pb := (ne_of_none at_b nt).symm
  have ft : pf ≠ t := ne_of_none f1 nt
  have jt : pj ≠ t := ne_of_none j1 nt
  refine ⟨(h.but.new nt).put a.nb a.bb, ⟨fv, by rw [upd_ne a.bf.symm, upd_ne ft]; exact f1, f2.off off⟩, ⟨_, upd_same, ?_⟩, by rw [upd_ne a.jbb, upd_ne jt]; exact j1, h.names, h.msok, ?_, fun x y => (h.join x y).more fun z w => List.mem_append_left _ w, h.paced⟩
  · rw [List.map_append]
    exact DatAll.snoc2 (DatAll.up off.dls b2) (.tup (.inl (.inl (dls_at tn (by rw [upd_ne tb, upd_same])))) (.cons (.str _) (.cons (.str _) (.cons (.int _) (.cons (.int _) .nil)))))
  · intro x y
    rcases List.mem_append.mp y with y | y
    · exact h.bsok x y
    · cases y with
      | head => exact ok
      | tail _ no => cases no
theorem Fills.joined (a : Lone H b pf pb pj) (h : Fills K H b pf pb pj most fl pace jf jn ms bs G) {nm : Str} (re : Reach bs fl nm) :
    Fills K H b pf pb pj most fl pace jf (jn ++ [nm]) ms bs (upd G pj (.lst (jn.map V.str ++ [.str nm]))) := by
  obtain ⟨fv, f1, f2⟩ := h.at_f
  obtain ⟨bv, b1, b2⟩ := h.at_b
  have off : OffS [b, pf, pb, pj] G (upd G pj (.lst (jn.map V.str ++ [.str nm]))) := OffS.put (by simp)
  refine ⟨h.but.put a.nj a.jb, ⟨fv, by rw [upd_ne a.jf.symm]; exact f1, f2.off off⟩, ⟨bv, by rw [upd_ne a.jbb.symm]; exact b1, DatAll.up off.dls b2⟩, by rw [upd_same, List.map_append]; rfl, h.names, h.msok, h.bsok, ?_, h.paced⟩
  intro x y
  rcases List.mem_append.mp y with y | y
  · exact h.join x y
  · cases y with
    | head => exact re
    | tail _ no => cases no
theorem Fills.len_f {fv : List V} (h : Fills K H b pf pb pj most fl pace jf jn ms bs G) (e : G pf = some (.lst fv)) : fv.length = jf.length := by
  obtain ⟨fv', f1, f2⟩ := h.at_f
  rw [e] at f1
  cases f1
  rw [f2.len, ← h.names, List.length_map]
theorem Fills.len_b {bv : List V} (h : Fills K H b pf pb pj most fl pace jf jn ms bs G) (e : G pb = some (.lst bv)) : bv.length = bs.length := by
  obtain ⟨bv', b1, b2⟩ := h.at_b
  rw [e] at b1
  cases b1
  rw [dats_len b2, List.length_map]
end
/-- the text with which a tuple begins -/
def keyAt (G : Hp) : V → Str
  | .ref t => match G t with
    | some (.tup (.str x :: _)) => x
    | _ => Str.empty
  | _ => Str.empty
theorem key_of {G : Hp} {t : Addr} {x : Str} {r : List V} (e : G t = some (.tup (.str x :: r))) : keyAt G (.ref t) = x := by
  unfold keyAt
  simp only [e]
theorem MachsAt.keys {S : List Addr} {G : Hp} : ∀ {vs : List V} {ms : List Mach}, MachsAt K S G vs ms → vs.map (keyAt G) = ms.map (·.1)
  | _, _, .nil => rfl
  | _, _, .cons ⟨t, p, e, n, a, d⟩ r => by
    subst e
    rw [List.map_cons, List.map_cons, key_of a, r.keys]
theorem inj_of {α β : Type} {f : α → β} : ∀ {l : List α}, (l.map f).Nodup → ∀ x ∈ l, ∀ y ∈ l, f x = f y → x = y
  | [], _, x, no, _, _, _ => nomatch no
  | a :: l, n, x, hx, y, hy, e => by
    rw [List.map_cons, List.nodup_cons] at n
    cases hx with
    | head =>
      cases hy with
      | head => rfl
      | tail _ hy => exact absurd (List.mem_map.mpr ⟨y, hy, e.symm⟩) n.1
    | tail _ hx =>
      cases hy with
      | head => exact absurd (List.mem_map.mpr ⟨x, hx, e⟩) n.1
      | tail _ hy => exact inj_of n.2 x hx y hy e
theorem ahead_total {x y : Str} (h : ahead y x = false) (ne : x ≠ y) : ahead x y = true := by
  have h' : ¬ y.cps.toList < x.cps.toList := of_decide_eq_false h
  have le : x.cps.toList ≤ y.cps.toList := List.not_lt.mp h'
  by_cases l : x.cps.toList < y.cps.toList
  · exact decide_eq_true l
  · refine absurd ?_ ne
    have e : x.cps.toList = y.cps.toList := List.le_antisymm le (List.not_lt.mp l)
    cases x
    cases y
    simp at e
    rw [e]
def spWeb (K : PySem.W.Frag) : Sp := fun vs H Q _ => ∃ (b : Addr) (many : Nat) (most : Int), vs = [.ref b, .int many, .int most] ∧ BagAt H b ∧ many ≤ 8 ∧ 1 ≤ most ∧ most < 1000000 ∧
  ∀ H' r h, But b H H' → H r = none → r ≠ b → Dt K b H' (.ref r) (hallD h) → Hall.Ok most h → h.ms.length = many + 1 → Q (.ref r) H'
theorem ok_web {f fT fS fM fP fF : Addr} {fd fdT fdS fdM fdP fdF : FuncData} (F : At K mg "_law_web" sWeb ["bag", "machines", "most"] f fd) (T : At K mg "_law_take" sTake ["bag", "many"] fT fdT) (S : At K mg "_law_some" sSome ["bag", "things"] fS fdS)
    (Mx : At K mg "_law_mixed" sMixed ["bag", "things"] fM fdM) (Pu : At K mg "_law_purses" sPur ["bag", "most"] fP fdP) (Fi : At K mg "_law_first" sFirst ["bag", "room"] fF fdF) (mi : mg "int" = none) (ml : mg "len" = none) (mt : mg "tuple" = none) (mr : mg "range" = none) (ms : mg "sorted" = none) :
    FnOk P w K mg base CX0 4 f fd ["bag", "machines", "most"] (spWeb K) := by
  have GT : FnOk P w K mg base CX0 1 fT fdT ["bag", "many"] spTake := ok_take T.fn mi
  have GS : FnOk P w K mg base CX0 2 fS fdS ["bag", "things"] (spSome K) := ok_some S T mi ml
  have GM : FnOk P w K mg base CX0 2 fM fdM ["bag", "things"] (spMixed K) := ok_mixed Mx T mi ml
  have GP : FnOk P w K mg base CX0 3 fP fdP ["bag", "most"] (spPur K) := ok_pur T S mi ml Pu mt mr
  have GF : FnOk P w K mg base CX0 3 fF fdF ["bag", "room"] spFirst := ok_first T S mi ml Fi
  have bt : bootBuiltins "tuple" = some (.type "tuple") := by decide +kernel
  have bs_ : bootBuiltins "sorted" = some (.builtin "sorted") := by decide +kernel
  refine F.fn.ok scWeb (fun vs H Q E h => ?_) (fun cdv A outer s H vs Q E hr h => ?_)
  · obtain ⟨b, many, most, rfl, _⟩ := h
    rfl
  · obtain ⟨b, many, most, rfl, bag, many8, m0, m1, fin⟩ := h
    have nd := scWeb.nd
    have hr1 : Room 1 _ := hr.mono (by decide)
    have hr2 : Room 2 _ := hr.mono (by decide)
    refine ⟨_, pss_cut (ps_set (i := 3) nd rfl (Or.inl rfl) (pe_slice sl_list (pe_call GM hr2 (by rfl) Mx.g Mx.fn.kp Mx.b .nil pass0 (pa_cons (pv 0) (pa_cons (pe_lst (pa_cons pe_str (pa_cons pe_str (pa_cons pe_str (pa_cons pe_str (pa_cons pe_str (pa_cons pe_str (pa_cons pe_str (pa_cons pe_str pa_nil))))))))) pa_nil))) po_none (po_some (pv 1))))
      (pss_cut (ps_par (i := 4) (j := 5) (by rfl) nd rfl rfl (by decide) rfl rfl (pa_cons (pe_call GS hr2 (by rfl) S.g S.fn.kp S.b .nil pass0 (pa_cons (pv 0) (pa_cons (pe_lst (pa_cons pe_str (pa_cons pe_str (pa_cons pe_str pa_nil)))) pa_nil))) (pa_cons (pe_op op_add pe_int (pe_call GT hr1 (by rfl) T.g T.fn.kp T.b .nil pass0 (pa_cons (pv 0) (pa_cons pe_int pa_nil)))) pa_nil)) (by rfl))
      (pss_cut (ps_par3 (i := 6) (j := 7) (l := 8) (by rfl) nd rfl rfl rfl (by decide) (by decide) (by decide) rfl rfl rfl (pa_cons (pe_lst (pa_cons (pe_tup (pa_cons (pv 4) (pa_cons (pv 5) (pa_cons (pe_tup pa_nil) pa_nil)))) pa_nil)) (pa_cons (pe_lst pa_nil) (pa_cons (pe_lst (pa_cons (pv 4) pa_nil)) pa_nil))) (by rfl))
      (pss_cut (ps_for PassesOwn.never rfl (pi_list (pv 3)) (pg_name (i := 9) nd rfl (Or.inl rfl))
          (pss_cut (ps_set (i := 10) nd rfl (Or.inl rfl) (pe_op op_add pe_int (pe_call GT hr1 (by rfl) T.g T.fn.kp T.b .nil pass0 (pa_cons (pv 0) (pa_cons (pe_op op_add (pv 5) (pe_callTy call_int1 (by rfl) mi (by decide +kernel) (pa_cons (pe_cmpR op_eq (pe_call GT hr1 (by rfl) T.g T.fn.kp T.b .nil pass0 (pa_cons (pv 0) (pa_cons pe_int pa_nil))) pe_int (nomark _)) pa_nil))) pa_nil)))))
          (pss_cut (ps_expr (pe_bm PySem.F.plainAttrs_list PySem.F.slot_list_append PySem.F.type_list_append mt_append (pv 6) (pa_cons (pe_tup (pa_cons (pv 9) (pa_cons (pv 10) (pa_cons (pe_call GP hr (by rfl) Pu.g Pu.fn.kp Pu.b .nil pass0 (pa_cons (pv 0) (pa_cons (pv 2) pa_nil))) pa_nil)))) pa_nil)))
          (pss_cut (ps_par (i := 11) (j := 12) (by rfl) nd rfl rfl (by decide) rfl rfl (pa_cons (pe_op op_add pe_int (pe_call GT hr1 (by rfl) T.g T.fn.kp T.b .nil pass0 (pa_cons (pv 0) (pa_cons pe_int pa_nil)))) (pa_cons (pe_call GS hr2 (by rfl) S.g S.fn.kp S.b .nil pass0 (pa_cons (pv 0) (pa_cons (pv 8) pa_nil))) pa_nil)) (by rfl))
          (pss_cut (ps_set (i := 13) nd rfl (Or.inl rfl) (pe_call GF hr (by rfl) Fi.g Fi.fn.kp Fi.b .nil pass0 (pa_cons (pv 0) (pa_cons (pv 11) pa_nil))))
          (pss_cut (ps_expr (pe_bm PySem.F.plainAttrs_list PySem.F.slot_list_append PySem.F.type_list_append mt_append (pv 7) (pa_cons (pe_ifExp (pt_cmpR op_gt (pe_call GT hr1 (by rfl) T.g T.fn.kp T.b .nil pass0 (pa_cons (pv 0) (pa_cons pe_int pa_nil))) pe_int (nomark _)) (pe_tup (pa_cons (pv 9) (pa_cons (pv 12) (pa_cons (pv 11) (pa_cons (pv 13) pa_nil))))) (pe_tup (pa_cons (pv 12) (pa_cons (pv 9) (pa_cons (pv 11) (pa_cons (pv 13) pa_nil)))))) pa_nil)))
          (pss_one (ps_expr (pe_bm PySem.F.plainAttrs_list PySem.F.slot_list_append PySem.F.type_list_append mt_append (pv 8) (pa_cons (pv 9) pa_nil))))))))))
      (pss_cut (ps_for PassesOwn.never rfl (pi_range1 (by rfl) mr (pa_cons (pe_ifExp (pt_cmpR op_gt (pv 1) pe_int (nomark _)) (pe_call GS hr2 (by rfl) S.g S.fn.kp S.b .nil pass0 (pa_cons (pv 0) (pa_cons (pe_lst (pa_cons pe_int (pa_cons pe_int (pa_cons pe_int (pa_cons pe_int pa_nil))))) pa_nil))) pe_int) pa_nil)) (pg_name (i := 14) nd rfl (Or.inl rfl))
          (pss_cut (ps_asg (pe_slice sl_list (pe_call GM hr2 (by rfl) Mx.g Mx.fn.kp Mx.b .nil pass0 (pa_cons (pv 0) (pa_cons (pv 8) pa_nil))) po_none (po_some pe_int)) (pg_lst rfl (pgs_cons (pg_name (i := 15) nd rfl (Or.inl rfl)) (pgs_cons (pg_name (i := 16) nd rfl (Or.inl rfl)) pgs_nil))))
          (pss_cut (ps_set (i := 11) nd rfl (Or.inl rfl) (pe_op op_add pe_int (pe_call GT hr1 (by rfl) T.g T.fn.kp T.b .nil pass0 (pa_cons (pv 0) (pa_cons pe_int pa_nil)))))
          (pss_one (ps_expr (pe_bm PySem.F.plainAttrs_list PySem.F.slot_list_append PySem.F.type_list_append mt_append (pv 7) (pa_cons (pe_tup (pa_cons (pv 15) (pa_cons (pv 16) (pa_cons (pv 11) (pa_cons (pe_call GF hr (by rfl) Fi.g Fi.fn.kp Fi.b .nil pass0 (pa_cons (pv 0) (pa_cons (pv 11) pa_nil))) pa_nil))))) pa_nil)))))))
      (pss_one (ps_ret (pe_tup (pa_cons (pe_callTy call_tuple_of (by rfl) mt bt (pa_cons (pe_callB call_sortedN (by rfl) ms bs_ (pa_cons (pv 6) pa_nil)) pa_nil)) (pa_cons (pe_callTy call_tuple_of (by rfl) mt bt (pa_cons (pe_call GM hr2 (by rfl) Mx.g Mx.fn.kp Mx.b .nil pass0 (pa_cons (pv 0) (pa_cons (pv 7) pa_nil))) pa_nil)) (pa_cons (pv 4) pa_nil)))))))))), ?_⟩
    refine ⟨fun σ' G => ∃ (pn : Addr) (ns : List Str), σ' = ([some (.ref b), some (.int many), some (.int most), some (.ref pn), none, none, none, none, none, none, none, none, none, none, none, none, none] : L2.St) ∧
      G pn = some (.lst (ns.map V.str)) ∧ ns.Nodup ∧ (∀ x ∈ ns, x ∈ eight) ∧ ns.length = many ∧ But b H G ∧ pn ≠ b, ?_, ?_⟩
    · refine ⟨_, rfl, len_line (by show 8 ≤ 100000; decide), fun p np => ?_⟩
      have pb := (But.free (But.refl b H) bag np).1
      refine ⟨b, p, _, rfl, bag.new np, SqL.of upd_same, pb, by show 8 ≤ 1000; decide, fun G1 q ys but1 bag1 q0 qb at_q perm => ?_⟩
      obtain ⟨zs, rfl, perm'⟩ := perm_strs (xs := eight) perm
      have len : zs.length = 8 := perm'.length_eq
      refine ⟨_, rfl, many, rfl, q, _, rfl, SqL.of at_q, fun c nc => ?_⟩
      rw [cut_first _ _ (by rw [List.length_map]; omega), ← List.map_take]
      have nodup : zs.Nodup := perm'.nodup_iff.mpr (by decide +kernel)
      refine ⟨c, zs.take many, rfl, upd_same, nodup.sublist (List.take_sublist _ _), fun x m => perm'.mem_iff.mp (List.mem_of_mem_take m), by rw [List.length_take]; omega, (((But.refl b H).new np).trans but1).new nc, (But.free (But.refl b G1) bag1 nc).1⟩
    rintro _ G1 ⟨pn, ns, rfl, at_n, nodup, sub, len, but1, nb⟩
    have bag1 := bag.but but1
    refine ⟨fun σ' G => ∃ (fl : Str) (pace : Int), σ' = ([some (.ref b), some (.int many), some (.int most), some (.ref pn), some (.str fl), some (.int pace), none, none, none, none, none, none, none, none, none, none, none] : L2.St) ∧
      (fl = "fill" ∨ fl = "m") ∧ 2 ≤ pace ∧ pace ≤ 7 ∧ But b G1 G, ?_, ?_⟩
    · refine ⟨_, rfl, len_line (by show 3 ≤ 100000; decide), fun p np => ?_⟩
      have pb := (But.free (But.refl b G1) bag1 np).1
      refine ⟨b, p, _, rfl, bag1.new np, .inl (SqL.of upd_same), pb, by show 0 < 3; decide, by show 3 < 1073741824; decide, fun G2 x mem but2 bag2 => ?_⟩
      refine ⟨_, rfl, b, 6, rfl, bag2, by decide, by decide, fun G3 v but3 bag3 v0 v1 => ?_⟩
      have s3 := (((But.refl b G1).new np).trans but2).trans but3
      simp only [List.mem_cons, List.not_mem_nil, or_false] at mem
      rcases mem with e | e | e <;> subst e
      · exact ⟨_, _, rfl, rfl, _, _, rfl, "fill", 2 + v, rfl, .inl rfl, by omega, by omega, s3⟩
      · exact ⟨_, _, rfl, rfl, _, _, rfl, "m", 2 + v, rfl, .inr rfl, by omega, by omega, s3⟩
      · exact ⟨_, _, rfl, rfl, _, _, rfl, "fill", 2 + v, rfl, .inl rfl, by omega, by omega, s3⟩
    rintro _ G2 ⟨fl, pace, rfl, hfl, p0, p1, but2⟩
    have bag2 := bag1.but but2
    have hfl8 : ∀ x ∈ ns, x ≠ fl := fun x m e => by
      have := sub x m
      rw [e] at this
      rcases hfl with z | z <;> rw [z] at this <;> exact absurd this (by decide +kernel)
    refine ⟨fun σ' G => ∃ (pf pb pj : Addr), σ' = ([some (.ref b), some (.int many), some (.int most), some (.ref pn), some (.str fl), some (.int pace), some (.ref pf), some (.ref pb), some (.ref pj), none, none, none, none, none, none, none, none] : L2.St) ∧
      Lone G1 b pf pb pj ∧ Fills K G1 b pf pb pj most fl pace [fl] [fl] [(fl, pace, [])] [] G, ?_, ?_⟩
    · refine ⟨_, rfl, _, rfl, len_line (by show 0 ≤ 100000; decide), fun t0 nt0 => ⟨len_line (by show 3 ≤ 100000; decide), fun t nt => ⟨len_line (by show 1 ≤ 100000; decide), fun pf npf => ⟨len_line (by show 0 ≤ 100000; decide), fun pb npb =>
        ⟨_, rfl, len_line (by show 1 ≤ 100000; decide), fun pj npj => ⟨_, _, _, rfl, pf, pb, pj, rfl, ?_⟩⟩⟩⟩⟩⟩
      have c1 := but2.new (o := .tup []) nt0
      have c2 := c1.new (o := .tup [.str fl, .int pace, .ref t0]) nt
      have c3 := c2.new (o := .lst [.ref t]) npf
      have c4 := c3.new (o := .lst []) npb
      have c5 := c4.new (o := .lst [.str fl]) npj
      have g2 := bag1.but c2
      have g3 := bag1.but c3
      have g4 := bag1.but c4
      obtain ⟨fb, nf⟩ := But.free c2 g2 npf
      obtain ⟨bb, nb'⟩ := But.free c3 g3 npb
      obtain ⟨jb, nj⟩ := But.free c4 g4 npj
      obtain ⟨t0b, _⟩ := But.free but2 bag2 nt0
      obtain ⟨tb, _⟩ := But.free c1 (bag1.but c1) nt
      have s1 := same_new (o := .tup [.str fl, .int pace, .ref t0]) nt
      have s2 := same_new (o := .lst [.ref t]) npf
      have s3 := same_new (o := .lst []) npb
      have s4 := same_new (o := .lst [.str fl]) npj
      have at_t2 := s2 _ _ (upd_same (H := upd G2 t0 (.tup [])) (a := t) (o := .tup [.str fl, .int pace, .ref t0]))
      have at_t3 := s3 _ _ at_t2
      have at_t4 := s4 _ _ at_t3
      have at_u1 := s1 _ _ (upd_same (H := G2) (a := t0) (o := .tup []))
      have at_u2 := s2 _ _ at_u1
      have at_u3 := s3 _ _ at_u2
      have at_u4 := s4 _ _ at_u3
      have at_f3 := s3 _ _ (upd_same (H := upd (upd G2 t0 (.tup [])) t (.tup [.str fl, .int pace, .ref t0])) (a := pf) (o := .lst [.ref t]))
      have at_f4 := s4 _ _ at_f3
      have at_b4 := s4 _ _ (upd_same (H := upd (upd (upd G2 t0 (.tup [])) t (.tup [.str fl, .int pace, .ref t0])) pf (.lst [.ref t])) (a := pb) (o := .lst []))
      have tn : t ∉ [b, pf, pb, pj] := by
        simp only [List.mem_cons, List.not_mem_nil, or_false, not_or]
        exact ⟨tb, ne_of at_t4 at_f4 (fun z => by cases z), ne_of at_t4 at_b4 (fun z => by cases z), ne_of at_t4 upd_same (fun z => by cases z)⟩
      have un : t0 ∉ [b, pf, pb, pj] := by
        simp only [List.mem_cons, List.not_mem_nil, or_false, not_or]
        exact ⟨t0b, ne_of at_u4 at_f4 (fun z => by cases z), ne_of at_u4 at_b4 (fun z => by cases z), ne_of at_u4 upd_same (fun z => by cases z)⟩
      refine ⟨⟨nf, nb', nj, fb, bb, jb, (ne_of_none upd_same npb).symm, (ne_of_none at_f3 npj).symm, (ne_of_none upd_same npj).symm⟩, ⟨c5, ⟨_, at_f4, .cons ⟨t, t0, rfl, tn, at_t4, .tup (.inl (.inl (dls_at un at_u4))) .nil⟩ .nil⟩, ⟨_, at_b4, .nil⟩, upd_same, rfl, ?_, (fun m no => nomatch no), ?_, .head _⟩⟩
      · intro m h
        cases h with
        | head => exact ⟨by show (1 : Int) ≤ pace; omega, by show pace ≤ 10; omega, by show 0 ≤ 2; decide, fun x no => nomatch no⟩
        | tail _ h => cases h
      · intro x h
        cases h with
        | head => exact .here
        | tail _ h => cases h
    rintro _ G3 ⟨pf, pb, pj, rfl, lone, fills⟩
    refine ⟨fun σ' G => ∃ (v9 v10 v11 v12 v13 : Option V) (ms : List Mach) (bs : List Belt), σ' = ([some (.ref b), some (.int many), some (.int most), some (.ref pn), some (.str fl), some (.int pace), some (.ref pf), some (.ref pb), some (.ref pj), v9, v10, v11, v12, v13, none, none, none] : L2.St) ∧
      Fills K G1 b pf pb pj most fl pace (fl :: ns) (fl :: ns) ms bs G ∧ bs.length = many, ?_, ?_⟩
    · refine ⟨_, rfl, pn, rfl, ⟨_, SqL.of (fills.but.1 _ _ nb at_n)⟩, for_list (K := K) (a := pn) (xs := ns.map V.str) (fun i σ' G => ∃ (v9 v10 v11 v12 v13 : Option V) (ms : List Mach) (bs : List Belt),
          σ' = ([some (.ref b), some (.int many), some (.int most), some (.ref pn), some (.str fl), some (.int pace), some (.ref pf), some (.ref pb), some (.ref pj), v9, v10, v11, v12, v13, none, none, none] : L2.St) ∧
          Fills K G1 b pf pb pj most fl pace (fl :: ns.take i) (fl :: ns.take i) ms bs G ∧ bs.length = i) ⟨none, none, none, none, none, _, [], rfl, fills, rfl⟩ (fun i σ' G _ ⟨_, _, _, _, _, _, _, _, fi, _⟩ => SqL.of (fi.but.1 _ _ nb at_n)) ?_ ?_⟩
      · rintro i x _ G at_i ⟨v9, v10, v11, v12, v13, ms', bs', rfl, fi, lb⟩
        have lt : i < ns.length := by
          have := (List.getElem?_eq_some_iff.mp at_i).1
          rwa [List.length_map] at this
        obtain ⟨nm, rfl, at_nm⟩ : ∃ nm, x = V.str nm ∧ ns[i]? = some nm := by
          rw [List.getElem?_map] at at_i
          cases e : ns[i]? with
          | none => rw [e] at at_i; cases at_i
          | some nm => rw [e] at at_i; exact ⟨nm, (Option.some.inj at_i).symm, rfl⟩
        have e1 : ns.take (i + 1) = ns.take i ++ [nm] := by
          rw [List.take_succ, at_nm]
          rfl
        have fresh : nm ∉ fl :: ns.take i := by
          intro m
          cases m with
          | head => exact hfl8 _ (List.mem_of_getElem? at_nm) rfl
          | tail _ m =>
            have nd2 : (ns.take i ++ [nm]).Nodup := by
              rw [← e1]
              exact nodup.sublist (List.take_sublist _ _)
            exact (List.nodup_append.mp nd2).2.2 _ m _ (.head _) rfl
        have bg : ∀ {G' : Hp}, But b G1 G' → BagAt G' b := fun s => bag1.but s
        -- time
        refine ⟨fun σ' G' => ∃ time : Int, σ' = ([some (.ref b), some (.int many), some (.int most), some (.ref pn), some (.str fl), some (.int pace), some (.ref pf), some (.ref pb), some (.ref pj), some (.str nm), some (.int time), v11, v12, v13, none, none, none] : L2.St) ∧ 1 ≤ time ∧ time ≤ 10 ∧
          Fills K G1 b pf pb pj most fl pace (fl :: ns.take i) (fl :: ns.take i) ms' bs' G', ?_, ?_⟩
        · refine ⟨_, rfl, _, rfl, _, rfl, b, 6, rfl, bg fi.but, by decide, by decide, fun G5 v but5 bag5 v0 v1 => ?_⟩
          refine ⟨rfl, .inr ⟨_, rfl, _, _, rfl, rfl, b, _, rfl, bag5, ?_, ?_, fun G6 u but6 bag6 u0 u1 => ⟨_, _, rfl, rfl, 1 + u, rfl, by omega, ?_, (fi.step lone but5).step lone but6⟩⟩⟩
          · split <;> omega
          · split <;> omega
          · revert u1
            split <;> omega
        rintro _ G5 ⟨time, rfl, ti0, ti1, fi5⟩
        -- found
        refine ⟨fun σ' G' => ∃ ps : List (Int × Int), σ' = ([some (.ref b), some (.int many), some (.int most), some (.ref pn), some (.str fl), some (.int pace), some (.ref pf), some (.ref pb), some (.ref pj), some (.str nm), some (.int time), v11, v12, v13, none, none, none] : L2.St) ∧
          Fills K G1 b pf pb pj most fl pace (fl :: ns.take i ++ [nm]) (fl :: ns.take i) (ms' ++ [(nm, time, ps)]) bs' G', ?_, ?_⟩
        · obtain ⟨fv, f1, _⟩ := fi5.at_f
          refine ⟨_, rfl, .inl ⟨rfl, _, SqL.of f1⟩, _, rfl, _, rfl, _, rfl, _, rfl, b, most, rfl, bg fi5.but, m0, m1, fun G6 p ps but6 p0' dt lp each => ?_⟩
          have fi6 := fi5.step lone but6
          have f6 := but6.1 _ _ lone.fb f1
          refine ⟨len_line (by show 3 ≤ 100000; decide), fun t nt => ?_⟩
          have ne : pf ≠ t := ne_of_none f6 nt
          refine ⟨pf, fv, .ref t, rfl, rfl, by rw [upd_ne ne]; exact f6, small1000 ?_, ps, rfl, ?_⟩
          · have := fi6.len_f f6
            simp only [List.length_cons, List.length_take] at this
            omega
          · exact fi6.found lone (bg fi6.but) nt dt f6 ⟨ti0, ti1, lp, each⟩
        rintro _ G6 ⟨ps, rfl, fi6⟩
        -- room, other
        refine ⟨fun σ' G' => ∃ (room : Int) (other : Str), σ' = ([some (.ref b), some (.int many), some (.int most), some (.ref pn), some (.str fl), some (.int pace), some (.ref pf), some (.ref pb), some (.ref pj), some (.str nm), some (.int time), some (.int room), some (.str other), v13, none, none, none] : L2.St) ∧
          1 ≤ room ∧ room ≤ 4 ∧ other ∈ fl :: ns.take i ∧ Fills K G1 b pf pb pj most fl pace (fl :: ns.take i ++ [nm]) (fl :: ns.take i) (ms' ++ [(nm, time, ps)]) bs' G', ?_, ?_⟩
        · refine ⟨_, rfl, b, 4, rfl, bg fi6.but, by decide, by decide, fun G7 v but7 bag7 v0 v1 => ?_⟩
          have fi7 := fi6.step lone but7
          refine ⟨_, _, rfl, rfl, _, rfl, _, rfl, b, pj, _, rfl, bag7, .inl (SqL.of fi7.at_j), lone.jb, by simp, ?_, fun G8 x mem but8 bag8 => ?_⟩
          · rw [List.length_map, List.length_cons, List.length_take]
            omega
          · obtain ⟨other, mo, rfl⟩ := List.mem_map.mp mem
            exact ⟨_, _, rfl, 1 + v, other, rfl, by omega, by omega, mo, fi7.step lone but8⟩
        rintro _ G7 ⟨room, other, rfl, ro0, ro1, mo, fi7⟩
        -- first
        refine ⟨fun σ' G' => ∃ first : Int, σ' = ([some (.ref b), some (.int many), some (.int most), some (.ref pn), some (.str fl), some (.int pace), some (.ref pf), some (.ref pb), some (.ref pj), some (.str nm), some (.int time), some (.int room), some (.str other), some (.int first), none, none, none] : L2.St) ∧
          0 ≤ first ∧ first ≤ room ∧ Fills K G1 b pf pb pj most fl pace (fl :: ns.take i ++ [nm]) (fl :: ns.take i) (ms' ++ [(nm, time, ps)]) bs' G', ?_, ?_⟩
        · exact ⟨_, rfl, _, rfl, b, room, rfl, bg fi7.but, by omega, by omega, fun G8 v but8 v0 v1 => ⟨v, rfl, v0, v1, fi7.step lone but8⟩⟩
        rintro _ G8 ⟨first, rfl, fi0, fi1, fi8⟩
        -- belts
        refine ⟨fun σ' G' => ∃ m : Belt, σ' = ([some (.ref b), some (.int many), some (.int most), some (.ref pn), some (.str fl), some (.int pace), some (.ref pf), some (.ref pb), some (.ref pj), some (.str nm), some (.int time), some (.int room), some (.str other), some (.int first), none, none, none] : L2.St) ∧
          Reach (bs' ++ [m]) fl nm ∧ Fills K G1 b pf pb pj most fl pace (fl :: ns.take i ++ [nm]) (fl :: ns.take i) (ms' ++ [(nm, time, ps)]) (bs' ++ [m]) G', ?_, ?_⟩
        · obtain ⟨bv, b1, _⟩ := fi8.at_b
          have unlike : nm ≠ other := fun z => fresh (by rw [z]; exact mo)
          have lb8 := fi8.len_b b1
          refine ⟨_, rfl, .inl ⟨rfl, _, SqL.of b1⟩, _, rfl, b, 3, rfl, bg fi8.but, by decide, by decide, fun G9 v but9 bag9 v0 v1 => ?_⟩
          have fi9 := fi8.step lone but9
          have b9 := but9.1 _ _ lone.bb b1
          have reach : ∀ m, Reach (bs' ++ [m]) fl other := fun m => (fi8.join other mo).more fun z y => List.mem_append_left _ y
          refine ⟨_, _, rfl, rfl, _, rfl, ite2 (fun _ => ?_) (fun _ => ?_)⟩
          · refine ⟨_, rfl, _, rfl, _, rfl, _, rfl, len_line (by show 4 ≤ 100000; decide), fun t nt => ?_⟩
            have ne : pb ≠ t := ne_of_none b9 nt
            refine ⟨pb, bv, .ref t, rfl, rfl, by rw [upd_ne ne]; exact b9, small1000 (by omega), (nm, other, room, first), rfl, Reach.back (m := (nm, other, room, first)) (reach _) (by simp) rfl, ?_⟩
            exact fi9.belt lone bag9 nt b9 ⟨unlike, by simp, List.mem_append_left _ mo, ro0, Int.le_trans ro1 (by decide), fi0, fi1⟩
          · refine ⟨_, rfl, _, rfl, _, rfl, _, rfl, len_line (by show 4 ≤ 100000; decide), fun t nt => ?_⟩
            have ne : pb ≠ t := ne_of_none b9 nt
            refine ⟨pb, bv, .ref t, rfl, rfl, by rw [upd_ne ne]; exact b9, small1000 (by omega), (other, nm, room, first), rfl, Reach.ahead (m := (other, nm, room, first)) (reach _) (by simp) rfl, ?_⟩
            exact fi9.belt lone bag9 nt b9 ⟨unlike.symm, List.mem_append_left _ mo, by simp, ro0, Int.le_trans ro1 (by decide), fi0, fi1⟩
        rintro _ G9 ⟨m, rfl, re, fi9⟩
        refine ⟨_, rfl, .inl ⟨rfl, _, SqL.of fi9.at_j⟩, _, rfl, pj, _, .str nm, rfl, rfl, fi9.at_j, small1000 ?_, _, _, _, _, _, ms' ++ [(nm, time, ps)], bs' ++ [m], rfl, ?_, ?_⟩
        · rw [List.length_map, List.length_cons, List.length_take]
          omega
        · rw [e1]
          exact fi9.joined lone re
        · rw [List.length_append, lb]
          rfl
      · rintro _ G ⟨v9, v10, v11, v12, v13, ms', bs', rfl, fi, lb⟩
        rw [List.length_map] at fi lb
        rw [List.take_length] at fi
        exact ⟨v9, v10, v11, v12, v13, ms', bs', rfl, fi, by omega⟩
    rintro _ G4 ⟨v9, v10, v11, v12, v13, ms', bs', rfl, fi, lb⟩
    have bg : ∀ {G' : Hp}, But b G1 G' → BagAt G' b := fun s => bag1.but s
    -- more belts
    have jlen : (fl :: ns).length = many + 1 := by rw [List.length_cons, len]
    refine ⟨fun σ' G => ∃ (v9 v10 v11 v12 v13 v14 v15 v16 : Option V) (bs2 : List Belt), σ' = ([some (.ref b), some (.int many), some (.int most), some (.ref pn), some (.str fl), some (.int pace), some (.ref pf), some (.ref pb), some (.ref pj), v9, v10, v11, v12, v13, v14, v15, v16] : L2.St) ∧
      Fills K G1 b pf pb pj most fl pace (fl :: ns) (fl :: ns) ms' bs2 G ∧ bs2.length ≤ many + 2, ?_, ?_⟩
    · refine ⟨_, rfl, _, _, rfl, rfl, _, rfl, ite2 (fun pos => ?_) (fun no => ?_)⟩
      · have pos' : 0 < many := by
          have := of_decide_eq_true pos
          omega
        refine ⟨_, rfl, len_line (by show 4 ≤ 100000; decide), fun p np => ?_⟩
        have pb' := (But.free (But.refl b G4) (bg fi.but) np).1
        refine ⟨b, p, _, rfl, (bg fi.but).new np, .inl (SqL.of upd_same), pb', by show 0 < 4; decide, by show 4 < 1073741824; decide, fun G5 x mem but5 bag5 => ?_⟩
        have fi5 := fi.step lone (((But.refl b G4).new np).trans but5)
        obtain ⟨k, rfl, k2⟩ : ∃ k : Nat, x = V.int k ∧ k ≤ 2 := by
          simp only [List.mem_cons, List.not_mem_nil, or_false] at mem
          rcases mem with e | e | e | e
          · exact ⟨0, e, by decide⟩
          · exact ⟨0, e, by decide⟩
          · exact ⟨1, e, by decide⟩
          · exact ⟨2, e, by decide⟩
        refine ⟨k, rfl, by omega, by omega, ?_⟩
        rw [Int.toNat_natCast]
        refine for_range (lo := 0) (n := k) (fun i σ' G => ∃ (v9 v10 v11 v12 v13 v14 v15 v16 : Option V) (bs2 : List Belt), σ' = ([some (.ref b), some (.int many), some (.int most), some (.ref pn), some (.str fl), some (.int pace), some (.ref pf), some (.ref pb), some (.ref pj), v9, v10, v11, v12, v13, v14, v15, v16] : L2.St) ∧
          Fills K G1 b pf pb pj most fl pace (fl :: ns) (fl :: ns) ms' bs2 G ∧ bs2.length = many + i) ⟨_, _, _, _, _, none, none, none, bs', rfl, fi5, by omega⟩ ?_ ?_
        · rintro i _ G lt ⟨v9, v10, v11, v12, v13, v14, v15, v16, bs2, rfl, fi6, lb6⟩
          refine ⟨fun σ' G' => ∃ (v14 : Option V) (s1 s2 : Str), σ' = ([some (.ref b), some (.int many), some (.int most), some (.ref pn), some (.str fl), some (.int pace), some (.ref pf), some (.ref pb), some (.ref pj), v9, v10, v11, v12, v13, v14, some (.str s1), some (.str s2)] : L2.St) ∧
            s1 ≠ s2 ∧ s1 ∈ fl :: ns ∧ s2 ∈ fl :: ns ∧ Fills K G1 b pf pb pj most fl pace (fl :: ns) (fl :: ns) ms' bs2 G', ?_, ?_⟩
          · refine ⟨_, rfl, _, rfl, b, pj, _, rfl, bg fi6.but, SqL.of fi6.at_j, lone.jb, by rw [List.length_map]; omega, fun G7 q ys but7 bag7 q0 qb at_q perm => ?_⟩
            obtain ⟨zs, rfl, perm'⟩ := perm_strs perm
            have zl : zs.length = many + 1 := by rw [perm'.length_eq, jlen]
            match zs, zl, perm', at_q with
            | s1 :: s2 :: rest, zl, perm', at_q =>
              refine ⟨2, rfl, q, _, rfl, SqL.of at_q, fun c nc => ?_⟩
              have e2 := cut_first ((s1 :: s2 :: rest).map V.str) 2 (by simp)
              have nd2 : (s1 :: s2 :: rest).Nodup := perm'.nodup_iff.mpr (List.nodup_cons.mpr ⟨fun m => hfl8 _ m rfl, nodup⟩)
              have fi7 := fi6.step lone but7
              refine ⟨c, _, rfl, SqL.of upd_same, ?_, ?_⟩
              · exact (congrArg List.length e2).trans rfl
              · have e3 : cutV (List.map V.str (s1 :: s2 :: rest)) none (some 2) = [.str s1, .str s2] := e2
                rw [e3]
                refine ⟨_, _, rfl, _, _, rfl, rfl, _, s1, s2, rfl, ?_, perm'.mem_iff.mp (by simp), perm'.mem_iff.mp (by simp), fi7.step lone ((But.refl b G7).new nc)⟩
                intro z
                rw [z] at nd2
                exact (List.nodup_cons.mp nd2).1 (by simp)
            | [_], zl, _, _ => exact absurd zl (by simp; omega)
            | [], zl, _, _ => exact absurd zl (by simp)
          rintro _ G7 ⟨u14, s1, s2, rfl, unlike, in1, in2, fi7⟩
          refine ⟨fun σ' G' => ∃ (room : Int), σ' = ([some (.ref b), some (.int many), some (.int most), some (.ref pn), some (.str fl), some (.int pace), some (.ref pf), some (.ref pb), some (.ref pj), v9, v10, some (.int room), v12, v13, u14, some (.str s1), some (.str s2)] : L2.St) ∧
            1 ≤ room ∧ room ≤ 4 ∧ Fills K G1 b pf pb pj most fl pace (fl :: ns) (fl :: ns) ms' bs2 G', ?_, ?_⟩
          · refine ⟨_, rfl, b, 4, rfl, bg fi7.but, by decide, by decide, fun G8 v but8 bag8 v0 v1 => ?_⟩
            exact ⟨_, _, rfl, rfl, 1 + v, rfl, by omega, by omega, fi7.step lone but8⟩
          rintro _ G8 ⟨room, rfl, ro0, ro1, fi8⟩
          obtain ⟨bv, b1, _⟩ := fi8.at_b
          have lb8 := fi8.len_b b1
          refine ⟨_, rfl, .inl ⟨rfl, _, SqL.of b1⟩, _, rfl, _, rfl, _, rfl, _, rfl, _, rfl, b, room, rfl, bg fi8.but, by omega, by omega, fun G9 v but9 v0 v1 => ?_⟩
          have fi9 := fi8.step lone but9
          have b9 := but9.1 _ _ lone.bb b1
          refine ⟨len_line (by show 4 ≤ 100000; decide), fun t nt => ?_⟩
          have ne : pb ≠ t := ne_of_none b9 nt
          refine ⟨pb, bv, .ref t, rfl, rfl, by rw [upd_ne ne]; exact b9, small1000 (by omega), _, _, _, _, _, _, _, _, bs2 ++ [(s1, s2, room, v)], rfl, ?_, ?_⟩
          · exact fi9.belt (m := (s1, s2, room, v)) lone (bg fi9.but) nt b9 ⟨unlike, in1, in2, ro0, Int.le_trans ro1 (by decide), v0, v1⟩
          · rw [List.length_append, lb6]
            show many + i + 1 = many + (i + 1)
            omega
        · rintro _ G ⟨v9, v10, v11, v12, v13, v14, v15, v16, bs2, rfl, fi6, lb6⟩
          exact ⟨_, _, _, _, _, _, _, _, bs2, rfl, fi6, by omega⟩
      · refine ⟨0, rfl, by decide, by decide, ?_⟩
        refine for_range (lo := 0) (n := 0) (fun i σ' G => σ' = ([some (.ref b), some (.int many), some (.int most), some (.ref pn), some (.str fl), some (.int pace), some (.ref pf), some (.ref pb), some (.ref pj), v9, v10, v11, v12, v13, none, none, none] : L2.St) ∧
          Fills K G1 b pf pb pj most fl pace (fl :: ns) (fl :: ns) ms' bs' G) ⟨rfl, fi⟩ (fun i _ _ no => absurd no (Nat.not_lt_zero _)) ?_
        rintro _ G ⟨rfl, fi6⟩
        exact ⟨_, _, _, _, _, _, _, _, bs', rfl, fi6, by omega⟩
    rintro _ G5 ⟨w9, w10, w11, w12, w13, w14, w15, w16, bs2, rfl, fi5, lb5⟩
    obtain ⟨fv, f1, f2⟩ := fi5.at_f
    obtain ⟨bv, b1, b2⟩ := fi5.at_b
    have keys : fv.map (keyAt G5) = fl :: ns := by rw [f2.keys, fi5.names]
    have ndk : (fl :: ns).Nodup := List.nodup_cons.mpr ⟨fun m => hfl8 _ m rfl, nodup⟩
    have msl : ms'.length = many + 1 := by
      rw [← List.length_map (f := (·.1)) (as := ms'), fi5.names, jlen]
    have S4 : ∀ {p : Addr}, p ∈ [b, pf, pb, pj] → True := fun _ => trivial
    refine ⟨_, rfl, pf, fv, keyAt G5, rfl, SqL.of f1, ?_, inj_of (by rw [keys]; exact ndk), fun ys q asc perm nq => ?_⟩
    · intro x m
      obtain ⟨mm, _, t, p, e, _, at_t, _⟩ := f2.mem x m
      subst e
      exact ⟨t, p, mm.2.1, rfl, by rw [key_of at_t]; exact at_t⟩
    have bq := bg fi5.but
    obtain ⟨qb, q0⟩ := But.free (But.refl b G5) bq nq
    have c6 : But b G5 (upd G5 q (.lst ys)) := (But.refl b G5).new nq
    refine ⟨q, ys, rfl, .inl ⟨SqL.of upd_same, fun l nl => ?_⟩⟩
    have c7 := c6.new (o := .tup ys) nl
    have fi7 := fi5.step lone c7
    obtain ⟨lb7, l6⟩ := But.free c6 (bq.but c6) nl
    have b7 := c7.1 _ _ lone.bb b1
    refine ⟨_, rfl, _, rfl, b, pb, bv, rfl, bg fi7.but, SqL.of b7, lone.bb, ?_, fun G8 q2 zs but8 bag8 q20 q2b at_q2 perm2 => ?_⟩
    · have := fi7.len_b b7
      omega
    refine ⟨q2, zs, rfl, .inl ⟨SqL.of at_q2, fun l2 nl2 => ?_⟩⟩
    have c9 : But b G8 (upd G8 l2 (.tup zs)) := (But.refl b G8).new nl2
    obtain ⟨l2b, _⟩ := But.free (But.refl b G8) bag8 nl2
    refine ⟨_, rfl, len_line (by show 3 ≤ 100000; decide), fun r nr => ?_⟩
    have bag9 := bag8.but c9
    have c10 : But b (upd G8 l2 (.tup zs)) (upd (upd G8 l2 (.tup zs)) r (.tup [.ref l, .ref l2, .str fl])) := (But.refl b _).new nr
    obtain ⟨rb, _⟩ := But.free (But.refl b _) bag9 nr
    have sEnd : But b G1 (upd (upd G8 l2 (.tup zs)) r (.tup [.ref l, .ref l2, .str fl])) := ((fi7.but.trans but8).trans c9).trans c10
    have r0 : H r = none := (But.free ((but1.trans fi7.but).trans (but8.trans c9)) bag9 nr).2
    obtain ⟨ms2, pm, at_ys⟩ := f2.perm perm
    obtain ⟨bs3, pbs, at_zs⟩ := dats_perm perm2 b2
    have up5 : ∀ p o, dls [b, pf, pb, pj] G5 p = some o → del (upd (upd G8 l2 (.tup zs)) r (.tup [.ref l, .ref l2, .str fl])) b p = some o := fun p o e => by
      obtain ⟨n, e1⟩ := dls_sub p o e
      have pb' : p ≠ b := fun z => n (by rw [z]; simp)
      rw [del_ne pb']
      exact (((c7.trans but8).trans c9).trans c10).1 _ _ pb' e1
    have at_l : del (upd (upd G8 l2 (.tup zs)) r (.tup [.ref l, .ref l2, .str fl])) b l = some (.tup ys) := by
      rw [del_ne lb7]
      exact ((but8.trans c9).trans c10).1 _ _ lb7 upd_same
    have at_l2 : del (upd (upd G8 l2 (.tup zs)) r (.tup [.ref l, .ref l2, .str fl])) b l2 = some (.tup zs) := by
      rw [del_ne l2b]
      exact c10.1 _ _ l2b upd_same
    have mem2 : ∀ m, m ∈ ms2 ↔ m ∈ ms' := fun m => pm.mem_iff
    have bmem : ∀ m, m ∈ bs3 ↔ m ∈ bs2 := fun m => pbs.mem_iff
    have names2 : (ms2.map (·.1)).Perm (fl :: ns) := by
      rw [← fi5.names]
      exact pm.map _
    refine fin _ r ⟨ms2, bs3, fl⟩ (but1.trans sEnd) r0 rb ?_ ⟨?_, fun m x => fi5.msok m ((mem2 m).mp x), ?_, hfl, ⟨pace, (mem2 _).mpr fi5.paced, p0, by omega⟩, ?_, ?_, ?_, ?_⟩ ?_
    · refine .tup (.inl (.inl (dt_at rb upd_same))) (.cons (.tup (.inl (.inl at_l)) (DatAll.up up5 at_ys.dats)) (.cons (.tup (.inl (.inl at_l2)) (DatAll.up up5 at_zs)) (.cons (.str _) .nil)))
    · have keys2 : ys.map (keyAt G5) = ms2.map (·.1) := at_ys.keys
      show (ms2.map (·.1)).Pairwise fun x y => ahead x y = true
      rw [← keys2, List.pairwise_map]
      have nd2 : (ys.map (keyAt G5)).Nodup := by
        rw [keys2]
        exact names2.nodup_iff.mpr ndk
      have both : ys.Pairwise fun x y => ahead (keyAt G5 y) (keyAt G5 x) = false ∧ keyAt G5 x ≠ keyAt G5 y := List.Pairwise.and asc (List.pairwise_map.mp nd2)
      exact both.imp fun h => ahead_total h.1 h.2
    · intro m x
      have : m.1 ∈ fl :: ns := names2.mem_iff.mp (List.mem_map.mpr ⟨m, x, rfl⟩)
      cases this with
      | head => exact .inl rfl
      | tail _ h => exact .inr (sub _ h)
    · intro m x
      obtain ⟨h1, h2, h3, h4⟩ := fi5.bsok m ((bmem m).mp x)
      exact ⟨h1, names2.mem_iff.mpr h2, names2.mem_iff.mpr h3, h4⟩
    · intro m x
      have : m.1 ∈ fl :: ns := names2.mem_iff.mp (List.mem_map.mpr ⟨m, x, rfl⟩)
      exact (fi5.join _ this).more fun z y => (bmem z).mpr y
    · show ms2.length ≤ 9
      rw [pm.length_eq]
      omega
    · show bs3.length ≤ 10
      rw [pbs.length_eq]
      omega
    · show ms2.length = many + 1
      rw [pm.length_eq, msl]
end
end K24

namespace K24
open PySem PySem.Spec PyProof.Rows L2 Vd Evl
/-! ### texts within bounds, wherever they stand in tuples -/
mutual
def txt : PyData → Bool
  | .str x => decide (x.length ≤ 1000000) && x.cps.toList.all fun c => decide (c < 0x110000)
  | .tuple xs => txts xs
  | _ => true
def txts : List PyData → Bool
  | [] => true
  | x :: xs => txt x && txts xs
end
/-! ### how great a thing is -/
mutual
def small : PyData → Bool
  | .int i => decide (i.natAbs < 2 ^ 400)
  | .tuple xs => smalls xs
  | _ => true
def smalls : List PyData → Bool
  | [] => true
  | x :: xs => small x && smalls xs
end
structure Fit (W D : Nat) (d : PyData) : Prop where
  nice : nice d = true
  txt : txt d = true
  small : small d = true
  wgt : wgt d ≤ W
  deep : d.depth ≤ D
theorem Fit.of {W D : Nat} {d : PyData} (h : (Vd.nice d && K24.txt d && K24.small d && decide (Vd.wgt d ≤ W) && decide (d.depth ≤ D)) = true) : Fit W D d := by
  simp only [Bool.and_eq_true, decide_eq_true_eq] at h
  exact ⟨h.1.1.1.1, h.1.1.1.2, h.1.1.2, h.1.2, h.2⟩
theorem Fit.more {W D W' D' : Nat} {d : PyData} (h : Fit W D d) (hw : W ≤ W') (hd : D ≤ D') : Fit W' D' d := ⟨h.nice, h.txt, h.small, Nat.le_trans h.wgt hw, Nat.le_trans h.deep hd⟩
theorem fits_parts {W D : Nat} : ∀ {ds : List PyData}, (∀ d ∈ ds, Fit W D d) → nices ds = true ∧ txts ds = true ∧ smalls ds = true ∧ wgts ds ≤ ds.length * (W + 2) ∧ PyData.depthAll ds ≤ D
  | [], _ => ⟨rfl, rfl, rfl, Nat.zero_le _, Nat.zero_le _⟩
  | d :: ds, h => by
    obtain ⟨a1, a2, a3, a4, a5⟩ := h d (.head _)
    obtain ⟨b1, b2, b3, b4, b5⟩ := fits_parts (ds := ds) fun e m => h e (.tail _ m)
    refine ⟨by simp [nices, a1, b1], by simp [txts, a2, b2], by simp [smalls, a3, b3], ?_, Nat.max_le.mpr ⟨a5, b5⟩⟩
    show Vd.wgt d + 2 + wgts ds ≤ (ds.length + 1) * (W + 2)
    rw [Nat.add_mul]
    omega
theorem Fit.tup {W D n : Nat} {ds : List PyData} (h : ∀ d ∈ ds, Fit W D d) (len : ds.length ≤ n) : Fit (n * (W + 2) + 4) (D + 1) (.tuple ds) := by
  obtain ⟨b1, b2, b3, b4, b5⟩ := fits_parts h
  refine ⟨by simpa [Vd.nice] using b1, by simpa [K24.txt] using b2, by simpa [K24.small] using b3, ?_, Nat.succ_le_succ b5⟩
  show wgts ds + 4 ≤ _
  have := Nat.mul_le_mul_right (W + 2) len
  omega
structure FitN (W D : Nat) (d : PyData) : Prop where
  fit : Fit W D d
  no : noList d = true
theorem FitN.of {W D : Nat} {d : PyData} (h : (Vd.nice d && K24.txt d && K24.small d && decide (Vd.wgt d ≤ W) && decide (d.depth ≤ D)) = true) (n : noList d = true) : FitN W D d := ⟨Fit.of h, n⟩
theorem FitN.more {W D W' D' : Nat} {d : PyData} (h : FitN W D d) (hw : W ≤ W') (hd : D ≤ D') : FitN W' D' d := ⟨h.fit.more hw hd, h.no⟩
theorem all_nil {α : Type} {p : α → Prop} : ∀ d ∈ ([] : List α), p d := fun _ m => nomatch m
theorem all_cons {α : Type} {p : α → Prop} {x : α} {l : List α} (a : p x) (r : ∀ d ∈ l, p d) : ∀ d ∈ x :: l, p d := fun d m => by
  cases m with
  | head => exact a
  | tail _ m => exact r d m
theorem noLists_of : ∀ {ds : List PyData}, (∀ d ∈ ds, noList d = true) → noLists ds = true
  | [], _ => rfl
  | d :: ds, h => by
    show (noList d && noLists ds) = true
    rw [h d (.head _), noLists_of fun e m => h e (.tail _ m)]
    rfl
theorem FitN.tup {W D n : Nat} {ds : List PyData} (h : ∀ d ∈ ds, FitN W D d) (len : ds.length ≤ n) : FitN (n * (W + 2) + 4) (D + 1) (.tuple ds) :=
  ⟨.tup (fun d m => (h d m).fit) len, noLists_of fun d m => (h d m).no⟩
end K24

namespace K24
open PySem PySem.Spec PyProof.Rows L2 Vd Evl
abbrev sTree : Stmt := topS 29
abbrev treeN : List Str := ["bag", "machines", "most", "names", "pace", "found", "belts", "joined", "name", "room"]
theorem scTree : FnScope treeN ["bag", "machines", "most"] (defScope sTree) := ⟨rfl, rfl, rfl, by decide +kernel, rfl, by decide +kernel, by decide +kernel⟩
def seven : List Str := ["cap", "box", "wash", "sort", "lab", "a", "tray"]
theorem seven_eight : ∀ x ∈ seven, x ∈ eight := fun x m => by
  simp only [seven, List.mem_cons, List.not_mem_nil, or_false] at m
  rcases m with e | e | e | e | e | e | e <;> subst e <;> decide +kernel
theorem fill_not : ("fill" : Str) ∉ eight := by decide +kernel
section
variable {P : Program} {w : World} {K : PySem.W.Frag} {mg : Str → Option Value} {base : Heap}
def spDrawn (K : PySem.W.Frag) : Sp := fun vs H Q _ => ∃ (b : Addr) (many : Nat) (most : Int), vs = [.ref b, .int many, .int most] ∧ BagAt H b ∧ many ≤ 7 ∧ 1 ≤ most ∧ most < 1000000 ∧
  ∀ H' r h, But b H H' → H r = none → r ≠ b → Dt K b H' (.ref r) (hallD h) → Hall.Ok most h → h.ms.length = many + 1 → Q (.ref r) H'
theorem ok_tree {f fT fS fM fP : Addr} {fd fdT fdS fdM fdP : FuncData} (F : At K mg "_law_tree" sTree ["bag", "machines", "most"] f fd) (T : At K mg "_law_take" sTake ["bag", "many"] fT fdT) (S : At K mg "_law_some" sSome ["bag", "things"] fS fdS)
    (Mx : At K mg "_law_mixed" sMixed ["bag", "things"] fM fdM) (Pu : At K mg "_law_purses" sPur ["bag", "most"] fP fdP) (mi : mg "int" = none) (ml : mg "len" = none) (mt : mg "tuple" = none) (mr : mg "range" = none) (ms : mg "sorted" = none) :
    FnOk P w K mg base CX0 4 f fd ["bag", "machines", "most"] (spDrawn K) := by
  have GT : FnOk P w K mg base CX0 1 fT fdT ["bag", "many"] spTake := ok_take T.fn mi
  have GS : FnOk P w K mg base CX0 2 fS fdS ["bag", "things"] (spSome K) := ok_some S T mi ml
  have GM : FnOk P w K mg base CX0 2 fM fdM ["bag", "things"] (spMixed K) := ok_mixed Mx T mi ml
  have GP : FnOk P w K mg base CX0 3 fP fdP ["bag", "most"] (spPur K) := ok_pur T S mi ml Pu mt mr
  have bt : bootBuiltins "tuple" = some (.type "tuple") := by decide +kernel
  have bs_ : bootBuiltins "sorted" = some (.builtin "sorted") := by decide +kernel
  refine F.fn.ok scTree (fun vs H Q E h => ?_) (fun cdv A outer s H vs Q E hr h => ?_)
  · obtain ⟨b, many, most, rfl, _⟩ := h
    rfl
  · obtain ⟨b, many, most, rfl, bag, many8, m0, m1, fin⟩ := h
    have nd := scTree.nd
    have hr1 : Room 1 _ := hr.mono (by decide)
    have hr2 : Room 2 _ := hr.mono (by decide)
    refine ⟨_, pss_cut (ps_par (i := 3) (j := 4) (by rfl) nd rfl rfl (by decide) rfl rfl (pa_cons (pe_slice sl_list (pe_call GM hr2 (by rfl) Mx.g Mx.fn.kp Mx.b .nil pass0 (pa_cons (pv 0) (pa_cons (pe_lst (pa_cons pe_str (pa_cons pe_str (pa_cons pe_str (pa_cons pe_str (pa_cons pe_str (pa_cons pe_str (pa_cons pe_str pa_nil)))))))) pa_nil))) po_none (po_some (pv 1)))
          (pa_cons (pe_op op_add pe_int (pe_call GT hr1 (by rfl) T.g T.fn.kp T.b .nil pass0 (pa_cons (pv 0) (pa_cons pe_int pa_nil)))) pa_nil)) (by rfl))
      (pss_cut (ps_par3 (i := 5) (j := 6) (l := 7) (by rfl) nd rfl rfl rfl (by decide) (by decide) (by decide) rfl rfl rfl (pa_cons (pe_lst (pa_cons (pe_tup (pa_cons pe_str (pa_cons (pv 4) (pa_cons (pe_tup pa_nil) pa_nil)))) pa_nil)) (pa_cons (pe_lst pa_nil) (pa_cons (pe_lst (pa_cons pe_str pa_nil)) pa_nil))) (by rfl))
      (pss_cut (ps_for PassesOwn.never rfl (pi_list (pv 3)) (pg_name (i := 8) nd rfl (Or.inl rfl))
          (pss_cut (ps_set (i := 9) nd rfl (Or.inl rfl) (pe_op op_add pe_int (pe_call GT hr1 (by rfl) T.g T.fn.kp T.b .nil pass0 (pa_cons (pv 0) (pa_cons pe_int pa_nil)))))
          (pss_cut (ps_expr (pe_bm PySem.F.plainAttrs_list PySem.F.slot_list_append PySem.F.type_list_append mt_append (pv 5) (pa_cons (pe_tup (pa_cons (pv 8) (pa_cons (pe_op op_add pe_int (pe_call GT hr1 (by rfl) T.g T.fn.kp T.b .nil pass0 (pa_cons (pv 0) (pa_cons (pv 4) pa_nil)))) (pa_cons (pe_call GP hr (by rfl) Pu.g Pu.fn.kp Pu.b .nil pass0 (pa_cons (pv 0) (pa_cons (pv 2) pa_nil))) pa_nil)))) pa_nil)))
          (pss_cut (ps_expr (pe_bm PySem.F.plainAttrs_list PySem.F.slot_list_append PySem.F.type_list_append mt_append (pv 6) (pa_cons (pe_tup (pa_cons (pv 8) (pa_cons (pe_call GS hr2 (by rfl) S.g S.fn.kp S.b .nil pass0 (pa_cons (pv 0) (pa_cons (pv 7) pa_nil))) (pa_cons (pv 9) (pa_cons (pv 9) pa_nil))))) pa_nil)))
          (pss_one (ps_expr (pe_bm PySem.F.plainAttrs_list PySem.F.slot_list_append PySem.F.type_list_append mt_append (pv 7) (pa_cons (pv 8) pa_nil))))))))
      (pss_one (ps_ret (pe_tup (pa_cons (pe_callTy call_tuple_of (by rfl) mt bt (pa_cons (pe_callB call_sortedN (by rfl) ms bs_ (pa_cons (pv 5) pa_nil)) pa_nil)) (pa_cons (pe_callTy call_tuple_of (by rfl) mt bt (pa_cons (pe_call GM hr2 (by rfl) Mx.g Mx.fn.kp Mx.b .nil pass0 (pa_cons (pv 0) (pa_cons (pv 6) pa_nil))) pa_nil)) (pa_cons pe_str pa_nil)))))))), ?_⟩
    refine ⟨fun σ' G => ∃ (pn : Addr) (ns : List Str) (pace : Int), σ' = ([some (.ref b), some (.int many), some (.int most), some (.ref pn), some (.int pace), none, none, none, none, none] : L2.St) ∧
      G pn = some (.lst (ns.map V.str)) ∧ ns.Nodup ∧ (∀ x ∈ ns, x ∈ eight) ∧ ns.length = many ∧ But b H G ∧ pn ≠ b ∧ 3 ≤ pace ∧ pace ≤ 9, ?_, ?_⟩
    · refine ⟨_, rfl, len_line (by show 7 ≤ 100000; decide), fun p np => ?_⟩
      have pb := (But.free (But.refl b H) bag np).1
      refine ⟨b, p, _, rfl, bag.new np, SqL.of upd_same, pb, by show 7 ≤ 1000; decide, fun G1 q ys but1 bag1 q0 qb at_q perm => ?_⟩
      obtain ⟨zs, rfl, perm'⟩ := perm_strs (xs := seven) perm
      have len : zs.length = 7 := perm'.length_eq
      refine ⟨_, rfl, many, rfl, q, _, rfl, SqL.of at_q, fun c nc => ?_⟩
      rw [cut_first _ _ (by rw [List.length_map]; omega), ← List.map_take]
      have nodup : zs.Nodup := perm'.nodup_iff.mpr (by decide +kernel)
      have cb := (But.free (But.refl b G1) bag1 nc).1
      have s2 := (((But.refl b H).new (o := .lst (seven.map V.str)) np).trans but1).new (o := .lst ((zs.take many).map V.str)) nc
      refine ⟨_, rfl, b, 7, rfl, bag1.new nc, by decide, by decide, fun G3 v but3 bag3 v0 v1 => ?_⟩
      exact ⟨_, _, rfl, rfl, _, _, rfl, c, zs.take many, 3 + v, rfl, but3.1 _ _ cb upd_same, nodup.sublist (List.take_sublist _ _), fun x m => seven_eight x (perm'.mem_iff.mp (List.mem_of_mem_take m)), by rw [List.length_take]; omega, s2.trans but3, cb, by omega, by omega⟩
    rintro _ G1 ⟨pn, ns, pace, rfl, at_n, nodup, sub, len, but1, nb, p0, p1⟩
    have bag1 := bag.but but1
    have hfl8 : ∀ x ∈ ns, x ≠ ("fill" : Str) := fun x m e => fill_not (e ▸ sub x m)
    refine ⟨fun σ' G => ∃ (pf pb pj : Addr), σ' = ([some (.ref b), some (.int many), some (.int most), some (.ref pn), some (.int pace), some (.ref pf), some (.ref pb), some (.ref pj), none, none] : L2.St) ∧
      Lone G1 b pf pb pj ∧ Fills K G1 b pf pb pj most ("fill" : Str) pace [("fill" : Str)] [("fill" : Str)] [(("fill" : Str), pace, [])] [] G, ?_, ?_⟩
    · refine ⟨_, rfl, len_line (by show 0 ≤ 100000; decide), fun t0 nt0 => ⟨len_line (by show 3 ≤ 100000; decide), fun t nt => ⟨len_line (by show 1 ≤ 100000; decide), fun pf npf => ⟨len_line (by show 0 ≤ 100000; decide), fun pb npb =>
        ⟨len_line (by show 1 ≤ 100000; decide), fun pj npj => ⟨_, _, _, rfl, pf, pb, pj, rfl, ?_⟩⟩⟩⟩⟩⟩
      have c1 := (But.refl b G1).new (o := .tup []) nt0
      have c2 := c1.new (o := .tup [.str ("fill" : Str), .int pace, .ref t0]) nt
      have c3 := c2.new (o := .lst [.ref t]) npf
      have c4 := c3.new (o := .lst []) npb
      have c5 := c4.new (o := .lst [.str ("fill" : Str)]) npj
      have g2 := bag1.but c2
      have g3 := bag1.but c3
      have g4 := bag1.but c4
      obtain ⟨fb, nf⟩ := But.free c2 g2 npf
      obtain ⟨bb, nb'⟩ := But.free c3 g3 npb
      obtain ⟨jb, nj⟩ := But.free c4 g4 npj
      obtain ⟨t0b, _⟩ := But.free (But.refl b G1) bag1 nt0
      obtain ⟨tb, _⟩ := But.free c1 (bag1.but c1) nt
      have s1 := same_new (o := .tup [.str ("fill" : Str), .int pace, .ref t0]) nt
      have s2 := same_new (o := .lst [.ref t]) npf
      have s3 := same_new (o := .lst []) npb
      have s4 := same_new (o := .lst [.str ("fill" : Str)]) npj
      have at_t2 := s2 _ _ (upd_same (H := upd G1 t0 (.tup [])) (a := t) (o := .tup [.str ("fill" : Str), .int pace, .ref t0]))
      have at_t3 := s3 _ _ at_t2
      have at_t4 := s4 _ _ at_t3
      have at_u1 := s1 _ _ (upd_same (H := G1) (a := t0) (o := .tup []))
      have at_u2 := s2 _ _ at_u1
      have at_u3 := s3 _ _ at_u2
      have at_u4 := s4 _ _ at_u3
      have at_f3 := s3 _ _ (upd_same (H := upd (upd G1 t0 (.tup [])) t (.tup [.str ("fill" : Str), .int pace, .ref t0])) (a := pf) (o := .lst [.ref t]))
      have at_f4 := s4 _ _ at_f3
      have at_b4 := s4 _ _ (upd_same (H := upd (upd (upd G1 t0 (.tup [])) t (.tup [.str ("fill" : Str), .int pace, .ref t0])) pf (.lst [.ref t])) (a := pb) (o := .lst []))
      have tn : t ∉ [b, pf, pb, pj] := by
        simp only [List.mem_cons, List.not_mem_nil, or_false, not_or]
        exact ⟨tb, ne_of at_t4 at_f4 (fun z => by cases z), ne_of at_t4 at_b4 (fun z => by cases z), ne_of at_t4 upd_same (fun z => by cases z)⟩
      have un : t0 ∉ [b, pf, pb, pj] := by
        simp only [List.mem_cons, List.not_mem_nil, or_false, not_or]
        exact ⟨t0b, ne_of at_u4 at_f4 (fun z => by cases z), ne_of at_u4 at_b4 (fun z => by cases z), ne_of at_u4 upd_same (fun z => by cases z)⟩
      refine ⟨⟨nf, nb', nj, fb, bb, jb, (ne_of_none upd_same npb).symm, (ne_of_none at_f3 npj).symm, (ne_of_none upd_same npj).symm⟩, ⟨c5, ⟨_, at_f4, .cons ⟨t, t0, rfl, tn, at_t4, .tup (.inl (.inl (dls_at un at_u4))) .nil⟩ .nil⟩, ⟨_, at_b4, .nil⟩, upd_same, rfl, ?_, (fun m no => nomatch no), ?_, .head _⟩⟩
      · intro m h
        cases h with
        | head => exact ⟨by show (1 : Int) ≤ pace; omega, by show pace ≤ 10; omega, by show 0 ≤ 2; decide, fun x no => nomatch no⟩
        | tail _ h => cases h
      · intro x h
        cases h with
        | head => exact .here
        | tail _ h => cases h
    rintro _ G3 ⟨pf, pb, pj, rfl, lone, fills⟩
    refine ⟨fun σ' G => ∃ (v8 v9 : Option V) (ms : List Mach) (bs : List Belt), σ' = ([some (.ref b), some (.int many), some (.int most), some (.ref pn), some (.int pace), some (.ref pf), some (.ref pb), some (.ref pj), v8, v9] : L2.St) ∧
      Fills K G1 b pf pb pj most ("fill" : Str) pace (("fill" : Str) :: ns) (("fill" : Str) :: ns) ms bs G ∧ bs.length = many, ?_, ?_⟩
    · refine ⟨_, rfl, pn, rfl, ⟨_, SqL.of (fills.but.1 _ _ nb at_n)⟩, for_list (K := K) (a := pn) (xs := ns.map V.str) (fun i σ' G => ∃ (v8 v9 : Option V) (ms : List Mach) (bs : List Belt),
          σ' = ([some (.ref b), some (.int many), some (.int most), some (.ref pn), some (.int pace), some (.ref pf), some (.ref pb), some (.ref pj), v8, v9] : L2.St) ∧
          Fills K G1 b pf pb pj most ("fill" : Str) pace (("fill" : Str) :: ns.take i) (("fill" : Str) :: ns.take i) ms bs G ∧ bs.length = i) ⟨none, none, _, [], rfl, fills, rfl⟩ (fun i σ' G _ ⟨_, _, _, _, _, fi, _⟩ => SqL.of (fi.but.1 _ _ nb at_n)) ?_ ?_⟩
      · rintro i x _ G at_i ⟨v8, v9, ms', bs', rfl, fi, lb⟩
        have lt : i < ns.length := by
          have := (List.getElem?_eq_some_iff.mp at_i).1
          rwa [List.length_map] at this
        obtain ⟨nm, rfl, at_nm⟩ : ∃ nm, x = V.str nm ∧ ns[i]? = some nm := by
          rw [List.getElem?_map] at at_i
          cases e : ns[i]? with
          | none => rw [e] at at_i; cases at_i
          | some nm => rw [e] at at_i; exact ⟨nm, (Option.some.inj at_i).symm, rfl⟩
        have e1 : ns.take (i + 1) = ns.take i ++ [nm] := by
          rw [List.take_succ, at_nm]
          rfl
        have fresh : nm ∉ ("fill" : Str) :: ns.take i := by
          intro m
          cases m with
          | head => exact hfl8 _ (List.mem_of_getElem? at_nm) rfl
          | tail _ m =>
            have nd2 : (ns.take i ++ [nm]).Nodup := by
              rw [← e1]
              exact nodup.sublist (List.take_sublist _ _)
            exact (List.nodup_append.mp nd2).2.2 _ m _ (.head _) rfl
        have bg : ∀ {G' : Hp}, But b G1 G' → BagAt G' b := fun s => bag1.but s
        -- room
        refine ⟨fun σ' G' => ∃ room : Int, σ' = ([some (.ref b), some (.int many), some (.int most), some (.ref pn), some (.int pace), some (.ref pf), some (.ref pb), some (.ref pj), some (.str nm), some (.int room)] : L2.St) ∧ 1 ≤ room ∧ room ≤ 5 ∧
          Fills K G1 b pf pb pj most ("fill" : Str) pace (("fill" : Str) :: ns.take i) (("fill" : Str) :: ns.take i) ms' bs' G', ?_, ?_⟩
        · exact ⟨_, rfl, b, 5, rfl, bg fi.but, by decide, by decide, fun G5 v but5 bag5 v0 v1 => ⟨_, _, rfl, rfl, 1 + v, rfl, by omega, by omega, fi.step lone but5⟩⟩
        rintro _ G5 ⟨room, rfl, ro0, ro1, fi5⟩
        -- found
        refine ⟨fun σ' G' => ∃ (time : Int) (ps : List (Int × Int)), σ' = ([some (.ref b), some (.int many), some (.int most), some (.ref pn), some (.int pace), some (.ref pf), some (.ref pb), some (.ref pj), some (.str nm), some (.int room)] : L2.St) ∧
          Fills K G1 b pf pb pj most ("fill" : Str) pace (("fill" : Str) :: ns.take i ++ [nm]) (("fill" : Str) :: ns.take i) (ms' ++ [(nm, time, ps)]) bs' G', ?_, ?_⟩
        · obtain ⟨fv, f1, _⟩ := fi5.at_f
          refine ⟨_, rfl, .inl ⟨rfl, _, SqL.of f1⟩, _, rfl, _, rfl, _, rfl, b, pace, rfl, bg fi5.but, by omega, by omega, fun G6 u but6 bag6 u0 u1 => ⟨_, _, rfl, rfl, _, rfl, _, rfl, b, most, rfl, bag6, m0, m1, fun G7 p ps but7 p0' dt lp each => ?_⟩⟩
          have fi6 := (fi5.step lone but6).step lone but7
          have f6 := but7.1 _ _ lone.fb (but6.1 _ _ lone.fb f1)
          refine ⟨len_line (by show 3 ≤ 100000; decide), fun t nt => ?_⟩
          have ne : pf ≠ t := ne_of_none f6 nt
          refine ⟨pf, fv, .ref t, rfl, rfl, by rw [upd_ne ne]; exact f6, small1000 ?_, 1 + u, ps, rfl, ?_⟩
          · have := fi6.len_f f6
            simp only [List.length_cons, List.length_take] at this
            omega
          · exact fi6.found lone (bag6.but but7) nt dt f6 ⟨by show 1 ≤ 1 + u; omega, by show 1 + u ≤ 10; omega, lp, each⟩
        rintro _ G6 ⟨time, ps, rfl, fi6⟩
        -- belts
        refine ⟨fun σ' G' => ∃ m : Belt, σ' = ([some (.ref b), some (.int many), some (.int most), some (.ref pn), some (.int pace), some (.ref pf), some (.ref pb), some (.ref pj), some (.str nm), some (.int room)] : L2.St) ∧
          Reach (bs' ++ [m]) ("fill" : Str) nm ∧ Fills K G1 b pf pb pj most ("fill" : Str) pace (("fill" : Str) :: ns.take i ++ [nm]) (("fill" : Str) :: ns.take i) (ms' ++ [(nm, time, ps)]) (bs' ++ [m]) G', ?_, ?_⟩
        · obtain ⟨bv, b1, _⟩ := fi6.at_b
          have lb8 := fi6.len_b b1
          refine ⟨_, rfl, .inl ⟨rfl, _, SqL.of b1⟩, _, rfl, _, rfl, _, rfl, b, pj, _, rfl, bg fi6.but, .inl (SqL.of fi6.at_j), lone.jb, by simp, ?_, fun G8 x mem but8 bag8 => ?_⟩
          · rw [List.length_map, List.length_cons, List.length_take]
            omega
          obtain ⟨other, mo, rfl⟩ := List.mem_map.mp mem
          have unlike : nm ≠ other := fun z => fresh (by rw [z]; exact mo)
          have fi9 := fi6.step lone but8
          have b9 := but8.1 _ _ lone.bb b1
          refine ⟨_, rfl, _, rfl, len_line (by show 4 ≤ 100000; decide), fun t nt => ?_⟩
          have ne : pb ≠ t := ne_of_none b9 nt
          have reach : ∀ m, Reach (bs' ++ [m]) ("fill" : Str) other := fun m => (fi6.join other mo).more fun z y => List.mem_append_left _ y
          refine ⟨pb, bv, .ref t, rfl, rfl, by rw [upd_ne ne]; exact b9, small1000 (by omega), (nm, other, room, room), rfl, Reach.back (m := (nm, other, room, room)) (reach _) (by simp) rfl, ?_⟩
          exact fi9.belt (m := (nm, other, room, room)) lone bag8 nt b9 ⟨unlike, by simp, List.mem_append_left _ mo, ro0, ro1, by show 0 ≤ room; omega, Int.le_refl _⟩
        rintro _ G9 ⟨m, rfl, re, fi9⟩
        refine ⟨_, rfl, .inl ⟨rfl, _, SqL.of fi9.at_j⟩, _, rfl, pj, _, .str nm, rfl, rfl, fi9.at_j, small1000 ?_, _, _, ms' ++ [(nm, time, ps)], bs' ++ [m], rfl, ?_, ?_⟩
        · rw [List.length_map, List.length_cons, List.length_take]
          omega
        · rw [e1]
          exact fi9.joined lone re
        · rw [List.length_append, lb]
          rfl
      · rintro _ G ⟨v8, v9, ms', bs', rfl, fi, lb⟩
        rw [List.length_map] at fi lb
        rw [List.take_length] at fi
        exact ⟨v8, v9, ms', bs', rfl, fi, by omega⟩
    rintro _ G5 ⟨v8, v9, ms', bs2, rfl, fi5, lb5⟩
    have bg : ∀ {G' : Hp}, But b G1 G' → BagAt G' b := fun s => bag1.but s
    have jlen : (("fill" : Str) :: ns).length = many + 1 := by rw [List.length_cons, len]
    obtain ⟨fv, f1, f2⟩ := fi5.at_f
    obtain ⟨bv, b1, b2⟩ := fi5.at_b
    have keys : fv.map (keyAt G5) = ("fill" : Str) :: ns := by rw [f2.keys, fi5.names]
    have ndk : (("fill" : Str) :: ns).Nodup := List.nodup_cons.mpr ⟨fun m => hfl8 _ m rfl, nodup⟩
    have msl : ms'.length = many + 1 := by
      rw [← List.length_map (f := (·.1)) (as := ms'), fi5.names, jlen]
    have S4 : ∀ {p : Addr}, p ∈ [b, pf, pb, pj] → True := fun _ => trivial
    refine ⟨_, rfl, pf, fv, keyAt G5, rfl, SqL.of f1, ?_, inj_of (by rw [keys]; exact ndk), fun ys q asc perm nq => ?_⟩
    · intro x m
      obtain ⟨mm, _, t, p, e, _, at_t, _⟩ := f2.mem x m
      subst e
      exact ⟨t, p, mm.2.1, rfl, by rw [key_of at_t]; exact at_t⟩
    have bq := bg fi5.but
    obtain ⟨qb, q0⟩ := But.free (But.refl b G5) bq nq
    have c6 : But b G5 (upd G5 q (.lst ys)) := (But.refl b G5).new nq
    refine ⟨q, ys, rfl, .inl ⟨SqL.of upd_same, fun l nl => ?_⟩⟩
    have c7 := c6.new (o := .tup ys) nl
    have fi7 := fi5.step lone c7
    obtain ⟨lb7, l6⟩ := But.free c6 (bq.but c6) nl
    have b7 := c7.1 _ _ lone.bb b1
    refine ⟨_, rfl, _, rfl, b, pb, bv, rfl, bg fi7.but, SqL.of b7, lone.bb, ?_, fun G8 q2 zs but8 bag8 q20 q2b at_q2 perm2 => ?_⟩
    · have := fi7.len_b b7
      omega
    refine ⟨q2, zs, rfl, .inl ⟨SqL.of at_q2, fun l2 nl2 => ?_⟩⟩
    have c9 : But b G8 (upd G8 l2 (.tup zs)) := (But.refl b G8).new nl2
    obtain ⟨l2b, _⟩ := But.free (But.refl b G8) bag8 nl2
    refine ⟨len_line (by show 3 ≤ 100000; decide), fun r nr => ?_⟩
    have bag9 := bag8.but c9
    have c10 : But b (upd G8 l2 (.tup zs)) (upd (upd G8 l2 (.tup zs)) r (.tup [.ref l, .ref l2, .str ("fill" : Str)])) := (But.refl b _).new nr
    obtain ⟨rb, _⟩ := But.free (But.refl b _) bag9 nr
    have sEnd : But b G1 (upd (upd G8 l2 (.tup zs)) r (.tup [.ref l, .ref l2, .str ("fill" : Str)])) := ((fi7.but.trans but8).trans c9).trans c10
    have r0 : H r = none := (But.free ((but1.trans fi7.but).trans (but8.trans c9)) bag9 nr).2
    obtain ⟨ms2, pm, at_ys⟩ := f2.perm perm
    obtain ⟨bs3, pbs, at_zs⟩ := dats_perm perm2 b2
    have up5 : ∀ p o, dls [b, pf, pb, pj] G5 p = some o → del (upd (upd G8 l2 (.tup zs)) r (.tup [.ref l, .ref l2, .str ("fill" : Str)])) b p = some o := fun p o e => by
      obtain ⟨n, e1⟩ := dls_sub p o e
      have pb' : p ≠ b := fun z => n (by rw [z]; simp)
      rw [del_ne pb']
      exact (((c7.trans but8).trans c9).trans c10).1 _ _ pb' e1
    have at_l : del (upd (upd G8 l2 (.tup zs)) r (.tup [.ref l, .ref l2, .str ("fill" : Str)])) b l = some (.tup ys) := by
      rw [del_ne lb7]
      exact ((but8.trans c9).trans c10).1 _ _ lb7 upd_same
    have at_l2 : del (upd (upd G8 l2 (.tup zs)) r (.tup [.ref l, .ref l2, .str ("fill" : Str)])) b l2 = some (.tup zs) := by
      rw [del_ne l2b]
      exact c10.1 _ _ l2b upd_same
    have mem2 : ∀ m, m ∈ ms2 ↔ m ∈ ms' := fun m => pm.mem_iff
    have bmem : ∀ m, m ∈ bs3 ↔ m ∈ bs2 := fun m => pbs.mem_iff
    have names2 : (ms2.map (·.1)).Perm (("fill" : Str) :: ns) := by
      rw [← fi5.names]
      exact pm.map _
    refine fin _ r ⟨ms2, bs3, ("fill" : Str)⟩ (but1.trans sEnd) r0 rb ?_ ⟨?_, fun m x => fi5.msok m ((mem2 m).mp x), ?_, .inl rfl, ⟨pace, (mem2 _).mpr fi5.paced, Int.le_trans (by decide) p0, by omega⟩, ?_, ?_, ?_, ?_⟩ ?_
    · refine .tup (.inl (.inl (dt_at rb upd_same))) (.cons (.tup (.inl (.inl at_l)) (DatAll.up up5 at_ys.dats)) (.cons (.tup (.inl (.inl at_l2)) (DatAll.up up5 at_zs)) (.cons (.str _) .nil)))
    · have keys2 : ys.map (keyAt G5) = ms2.map (·.1) := at_ys.keys
      show (ms2.map (·.1)).Pairwise fun x y => ahead x y = true
      rw [← keys2, List.pairwise_map]
      have nd2 : (ys.map (keyAt G5)).Nodup := by
        rw [keys2]
        exact names2.nodup_iff.mpr ndk
      have both : ys.Pairwise fun x y => ahead (keyAt G5 y) (keyAt G5 x) = false ∧ keyAt G5 x ≠ keyAt G5 y := List.Pairwise.and asc (List.pairwise_map.mp nd2)
      exact both.imp fun h => ahead_total h.1 h.2
    · intro m x
      have : m.1 ∈ ("fill" : Str) :: ns := names2.mem_iff.mp (List.mem_map.mpr ⟨m, x, rfl⟩)
      rcases List.mem_cons.mp this with h | h
      · exact .inl h
      · exact .inr (sub _ h)
    · intro m x
      obtain ⟨h1, h2, h3, h4⟩ := fi5.bsok m ((bmem m).mp x)
      exact ⟨h1, names2.mem_iff.mpr h2, names2.mem_iff.mpr h3, h4⟩
    · intro m x
      have : m.1 ∈ ("fill" : Str) :: ns := names2.mem_iff.mp (List.mem_map.mpr ⟨m, x, rfl⟩)
      exact (fi5.join _ this).more fun z y => (bmem z).mpr y
    · show ms2.length ≤ 9
      rw [pm.length_eq]
      omega
    · show bs3.length ≤ 10
      rw [pbs.length_eq]
      omega
    · show ms2.length = many + 1
      rw [pm.length_eq, msl]
end
end K24

namespace K24
open PySem PySem.Spec PyProof.Rows L2 Vd Evl
abbrev sLine : Stmt := topS 28
abbrev lineN : List Str := ["bag", "machines", "most", "names", "pace", "found", "belts", "start", "end", "room", "name"]
theorem scLine : FnScope lineN ["bag", "machines", "most"] (defScope sLine) := ⟨rfl, rfl, rfl, by decide +kernel, rfl, by decide +kernel, by decide +kernel⟩
theorem for_zipU {K : PySem.W.Frag} {a b : Addr} {xs ys : List V} {g : TG} {tb : TS} {D : Ends} {σ : L2.St} {H : Hp} (short : ys.length ≤ xs.length) (Pv : Nat → L2.St → Hp → Prop) (h0 : Pv 0 σ H) (hq : ∀ i σ H, Pv i σ H → SqL K H a xs ∧ SqL K H b ys)
    (hs : ∀ (i : Nat) (x y : V) (T : Addr) (σ : L2.St) (H : Hp), xs[i]? = some x → ys[i]? = some y → Pv i σ H → H T = none → g (.ref T) σ (upd H T (.tup [x, y])) fun σ2 H2 => tb { D with nx := Pv (i + 1), ct := Pv (i + 1), bk := D.nx } σ2 H2) (hd : ∀ σ H, Pv ys.length σ H → D.nx σ H) :
    ∃ W : Nat → Nat → L2.St → Hp → Prop, (∃ m, W 0 m σ H) ∧ ∀ i m σ H, W i m σ H →
      ((Itz K a b).stop i H ∧ D.nx σ H) ∨ ((Itz K a b).go i H ∧ ∃ N : L2.St → Hp → Prop, (∀ σ' H', N σ' H' → ∃ m', m' < m ∧ W (i + 1) m' σ' H') ∧ ∀ v H', (Itz K a b).yld i H v H' → g v σ H' fun σ2 H2 => tb { D with nx := N, ct := N, bk := D.nx } σ2 H2) := by
  refine ⟨fun i m σ H => m = ys.length - i ∧ i ≤ ys.length ∧ Pv i σ H, ⟨ys.length, rfl, Nat.zero_le _, h0⟩, ?_⟩
  rintro i m σ H ⟨rfl, le, p⟩
  obtain ⟨qx, qy⟩ := hq i σ H p
  by_cases lt : i < ys.length
  · refine .inr ⟨⟨xs, ys, _, _, qx, qy, List.getElem?_eq_getElem (Nat.lt_of_lt_of_le lt short), List.getElem?_eq_getElem lt⟩, Pv (i + 1), fun σ' H' p' => ⟨ys.length - (i + 1), by omega, rfl, lt, p'⟩, fun v H' y => ?_⟩
    obtain ⟨T, x', y', rfl, hT, rfl, f1, f2⟩ := y
    exact hs i x' y' T σ H (f1 xs qx) (f2 ys qy) p hT
  · obtain rfl : i = ys.length := by omega
    exact .inl ⟨⟨xs, ys, qx, qy, .inr (Nat.le_refl _)⟩, hd σ H p⟩
/-- what stands beside the bag stands beside some lists more -/
theorem widen {G : Hp} {S S' : List Addr} (lists : ∀ q ∈ S', q ∉ S → ∃ xs, G q = some (.lst xs)) : ∀ p o, dls S G p = some o → (∀ xs, o ≠ .lst xs) → dls S' G p = some o := fun p o e no => by
  obtain ⟨n, e1⟩ := dls_sub p o e
  refine dls_at (fun m => ?_) e1
  obtain ⟨xs, e2⟩ := lists p m n
  rw [e1] at e2
  cases e2
  exact no _ rfl
section
variable {K : PySem.W.Frag}
theorem MachsAt.widen {G : Hp} {S S' : List Addr} (lists : ∀ q ∈ S', q ∉ S → ∃ xs, G q = some (.lst xs)) : ∀ {vs : List V} {ms : List Mach}, MachsAt K S G vs ms → MachsAt K S' G vs ms
  | _, _, .nil => .nil
  | _, _, .cons x r => by
    refine .cons ?_ (r.widen lists)
    obtain ⟨t, p, e, n, a, d⟩ := x
    refine ⟨t, p, e, fun m => ?_, a, strip (K24.widen lists) (purses_noList _) d⟩
    obtain ⟨xs, e2⟩ := lists t m n
    rw [a] at e2
    cases e2
theorem MachsAt.keepN {G G' : Hp} {S : List Addr} (keep : ∀ p o, dls S G p = some o → (∀ xs, o ≠ .lst xs) → dls S G' p = some o) : ∀ {vs : List V} {ms : List Mach}, MachsAt K S G vs ms → MachsAt K S G' vs ms
  | _, _, .nil => .nil
  | _, _, .cons x r => by
    refine .cons ?_ (r.keepN keep)
    obtain ⟨t, p, e, n, a, d⟩ := x
    exact ⟨t, p, e, n, (dls_sub _ _ (keep t _ (dls_at n a) fun xs z => by cases z)).2, strip keep (purses_noList _) d⟩
theorem belts_noList : ∀ bs : List Belt, noLists (bs.map beltD) = true
  | [] => rfl
  | m :: bs => by
    show (noList (beltD m) && noLists (bs.map beltD)) = true
    rw [belts_noList bs]
    rfl
end
theorem cut_last (xs : List V) (z : V) : cutV (xs ++ [z]) none (some (-1)) = xs := by
  unfold cutV
  have e1 : HT.sIx (xs ++ [z]).length 0 none = 0 := rfl
  have e2 : HT.sIx (xs ++ [z]).length (xs ++ [z]).length (some (-1)) = xs.length := by
    show (if (-1 : Int) < 0 then (-1 + ((xs ++ [z]).length : Int)).toNat else min (-1 : Int).toNat (xs ++ [z]).length) = _
    rw [if_pos (by decide), List.length_append]
    have : [z].length = 1 := rfl
    omega
  rw [e1, e2, List.drop_zero, Nat.sub_zero, List.take_left']
  rfl
theorem cut_rest (x : V) (xs : List V) : cutV (x :: xs) (some 1) none = xs := by
  unfold cutV
  have e1 : HT.sIx (x :: xs).length 0 (some 1) = 1 := by
    show (if (1 : Int) < 0 then (1 + ((x :: xs).length : Int)).toNat else min (1 : Int).toNat (x :: xs).length) = 1
    rw [if_neg (by decide), List.length_cons]
    have : ((1 : Int).toNat) = 1 := rfl
    omega
  have e2 : HT.sIx (x :: xs).length (x :: xs).length none = (x :: xs).length := rfl
  rw [e1, e2]
  show xs.take (xs.length + 1 - 1) = xs
  rw [Nat.add_sub_cancel, List.take_length]
/-- all along a line one comes to its end -/
theorem line_reach {bs : List Belt} {ns : List Str} {z : Str} (adj : ∀ i x y, (ns ++ [z])[i]? = some x → (ns ++ [z])[i + 1]? = some y → ∃ m ∈ bs, m.1 = x ∧ m.2.1 = y) : ∀ x ∈ ns ++ [z], Reach bs z x := by
  have go : ∀ k i x, i + k = ns.length → (ns ++ [z])[i]? = some x → Reach bs z x := fun k => by
    induction k with
    | zero =>
      intro i x e at_i
      have : i = ns.length := by omega
      subst this
      rw [List.getElem?_append_right (Nat.le_refl _), Nat.sub_self] at at_i
      have : z = x := by simpa using at_i
      exact this ▸ .here
    | succ k ih =>
      intro i x e at_i
      have lt : i + 1 < (ns ++ [z]).length := by
        rw [List.length_append]
        have : [z].length = 1 := rfl
        omega
      obtain ⟨m, mm, e1, e2⟩ := adj i x _ at_i (List.getElem?_eq_getElem lt)
      exact e1 ▸ Reach.back (ih (i + 1) _ (by omega) (List.getElem?_eq_getElem lt)) mm e2
  intro x m
  obtain ⟨i, lt, e⟩ := List.mem_iff_getElem.mp m
  have lt' : i < ns.length + 1 := by
    rw [List.length_append] at lt
    exact lt
  exact go (ns.length - i) i x (by omega) (by rw [List.getElem?_eq_getElem lt, e])
section
variable {P : Program} {w : World} {K : PySem.W.Frag} {mg : Str → Option Value} {base : Heap}
theorem ok_line {f fT fS fM fP : Addr} {fd fdT fdS fdM fdP : FuncData} (F : At K mg "_law_line" sLine ["bag", "machines", "most"] f fd) (T : At K mg "_law_take" sTake ["bag", "many"] fT fdT) (S : At K mg "_law_some" sSome ["bag", "things"] fS fdS)
    (Mx : At K mg "_law_mixed" sMixed ["bag", "things"] fM fdM) (Pu : At K mg "_law_purses" sPur ["bag", "most"] fP fdP) (mi : mg "int" = none) (ml : mg "len" = none) (mt : mg "tuple" = none) (mr : mg "range" = none) (ms : mg "sorted" = none) (mz : mg "zip" = none) :
    FnOk P w K mg base CX0 4 f fd ["bag", "machines", "most"] (spDrawn K) := by
  have GT : FnOk P w K mg base CX0 1 fT fdT ["bag", "many"] spTake := ok_take T.fn mi
  have GS : FnOk P w K mg base CX0 2 fS fdS ["bag", "things"] (spSome K) := ok_some S T mi ml
  have GM : FnOk P w K mg base CX0 2 fM fdM ["bag", "things"] (spMixed K) := ok_mixed Mx T mi ml
  have GP : FnOk P w K mg base CX0 3 fP fdP ["bag", "most"] (spPur K) := ok_pur T S mi ml Pu mt mr
  have bt : bootBuiltins "tuple" = some (.type "tuple") := by decide +kernel
  have bs_ : bootBuiltins "sorted" = some (.builtin "sorted") := by decide +kernel
  refine F.fn.ok scLine (fun vs H Q E h => ?_) (fun cdv A outer s H vs Q E hr h => ?_)
  · obtain ⟨b, many, most, rfl, _⟩ := h
    rfl
  · obtain ⟨b, many, most, rfl, bag, many8, m0, m1, fin⟩ := h
    have nd := scLine.nd
    have hr1 : Room 1 _ := hr.mono (by decide)
    have hr2 : Room 2 _ := hr.mono (by decide)
    refine ⟨_, pss_cut (ps_set (i := 3) nd rfl (Or.inl rfl) (pe_op op_cat (pe_slice sl_list (pe_call GM hr2 (by rfl) Mx.g Mx.fn.kp Mx.b .nil pass0 (pa_cons (pv 0) (pa_cons (pe_lst (pa_cons pe_str (pa_cons pe_str (pa_cons pe_str (pa_cons pe_str (pa_cons pe_str (pa_cons pe_str (pa_cons pe_str pa_nil)))))))) pa_nil))) po_none (po_some (pv 1))) (pe_lst (pa_cons pe_str pa_nil))))
      (pss_cut (ps_set (i := 4) nd rfl (Or.inr rfl) (pe_op op_add pe_int (pe_call GT hr1 (by rfl) T.g T.fn.kp T.b .nil pass0 (pa_cons (pv 0) (pa_cons pe_int pa_nil)))))
      (pss_cut (ps_set (i := 5) nd rfl (Or.inl rfl) (pe_op op_cat (pe_lc (own := [("name", 10)]) (g := gName 10) (tt := tYes) rfl nd (pi_list (pe_slice sl_list (pv 3) po_none (po_some (pe_un un_neg pe_int)))) (blkOk_by (N := lineN) (sc := defScope sLine) (by decide +kernel))
            (fun _ _ _ _ _ => pg_name (i := 10) nd rfl (Or.inl rfl)) (fun _ _ _ _ _ => pts_nil)
            (fun _ _ _ _ _ => pe_tup (pa_cons (pv 10) (pa_cons (pe_op op_add pe_int (pe_call GT hr1 (by rfl) T.g T.fn.kp T.b .nil pass0 (pa_cons (pv 0) (pa_cons (pv 4) pa_nil)))) (pa_cons (pe_call GP hr (by rfl) Pu.g Pu.fn.kp Pu.b .nil pass0 (pa_cons (pv 0) (pa_cons (pv 2) pa_nil))) pa_nil)))))
          (pe_lst (pa_cons (pe_tup (pa_cons pe_str (pa_cons (pv 4) (pa_cons (pe_tup pa_nil) pa_nil)))) pa_nil))))
      (pss_cons (ps_set (i := 6) nd rfl (Or.inl rfl) (pe_lst pa_nil))
      (pss_cut (ps_for PassesOwn.never rfl (pi_zip (by rfl) mz (pa_cons (pv 3) (pa_cons (pe_slice sl_list (pv 3) (po_some pe_int) po_none) pa_nil))) (pg_tup rfl (pgs_cons (pg_name (i := 7) nd rfl (Or.inl rfl)) (pgs_cons (pg_name (i := 8) nd rfl (Or.inl rfl)) pgs_nil)))
          (pss_cons (ps_set (i := 9) nd rfl (Or.inl rfl) (pe_op op_add pe_int (pe_call GT hr1 (by rfl) T.g T.fn.kp T.b .nil pass0 (pa_cons (pv 0) (pa_cons pe_int pa_nil)))))
          (pss_one (ps_expr (pe_bm PySem.F.plainAttrs_list PySem.F.slot_list_append PySem.F.type_list_append mt_append (pv 6) (pa_cons (pe_tup (pa_cons (pv 7) (pa_cons (pv 8) (pa_cons (pv 9) (pa_cons (pv 9) pa_nil))))) pa_nil))))))
      (pss_one (ps_ret (pe_tup (pa_cons (pe_callTy call_tuple_of (by rfl) mt bt (pa_cons (pe_callB call_sortedN (by rfl) ms bs_ (pa_cons (pv 5) pa_nil)) pa_nil)) (pa_cons (pe_callTy call_tuple_of (by rfl) mt bt (pa_cons (pe_call GM hr2 (by rfl) Mx.g Mx.fn.kp Mx.b .nil pass0 (pa_cons (pv 0) (pa_cons (pv 6) pa_nil))) pa_nil)) (pa_cons pe_str pa_nil)))))))))), ?_⟩
    refine ⟨fun σ' G => ∃ (pn : Addr) (ns : List Str), σ' = ([some (.ref b), some (.int many), some (.int most), some (.ref pn), none, none, none, none, none, none, none] : L2.St) ∧
      G pn = some (.lst ((ns ++ [("fill" : Str)]).map V.str)) ∧ ns.Nodup ∧ (∀ x ∈ ns, x ∈ eight) ∧ ns.length = many ∧ But b H G ∧ pn ≠ b ∧ H pn = none, ?_, ?_⟩
    · refine ⟨_, rfl, len_line (by show 7 ≤ 100000; decide), fun p np => ?_⟩
      have pb := (But.free (But.refl b H) bag np).1
      refine ⟨b, p, _, rfl, bag.new np, SqL.of upd_same, pb, by show 7 ≤ 1000; decide, fun G1 q ys but1 bag1 q0 qb at_q perm => ?_⟩
      obtain ⟨zs, rfl, perm'⟩ := perm_strs (xs := seven) perm
      have len : zs.length = 7 := perm'.length_eq
      refine ⟨_, rfl, many, rfl, q, _, rfl, SqL.of at_q, fun c nc => ?_⟩
      rw [cut_first _ _ (by rw [List.length_map]; omega), ← List.map_take]
      have nodup : zs.Nodup := perm'.nodup_iff.mpr (by decide +kernel)
      have s2 := (((But.refl b H).new (o := .lst (seven.map V.str)) np).trans but1).new (o := .lst ((zs.take many).map V.str)) nc
      have bag2 := bag1.new (o := .lst ((zs.take many).map V.str)) nc
      have at_c : upd G1 c (.lst ((zs.take many).map V.str)) c = some (.lst ((zs.take many).map V.str)) := upd_same
      generalize upd G1 c (.lst ((zs.take many).map V.str)) = G2 at s2 bag2 at_c
      refine ⟨len_line (by show 1 ≤ 100000; decide), fun l nl => ?_⟩
      have s3 : Same G2 (upd G2 l (.lst [.str "fill"])) := same_new nl
      refine ⟨c, l, _, _, rfl, rfl, s3 _ _ at_c, upd_same, len_line (by rw [List.length_map, List.length_take]; show _ + 1 ≤ _; omega), fun n nn => ?_⟩
      have s4 := s2.trans (But.of s3)
      obtain ⟨nb, n0⟩ := But.free s4 (bag2.but (But.of s3)) nn
      refine ⟨n, zs.take many, rfl, ?_, nodup.sublist (List.take_sublist _ _), fun x m => seven_eight x (perm'.mem_iff.mp (List.mem_of_mem_take m)), by rw [List.length_take]; omega, s4.new nn, nb, n0⟩
      rw [upd_same, List.map_append]
      rfl
    rintro _ G1 ⟨pn, ns, rfl, at_n, nodup, sub, len, but1, nb, n0⟩
    have bag1 := bag.but but1
    have hfl8 : ∀ x ∈ ns, x ≠ ("fill" : Str) := fun x m e => fill_not (e ▸ sub x m)
    have nodup2 : (ns ++ [("fill" : Str)]).Nodup := List.nodup_append.mpr ⟨nodup, by simp, fun x m y my e => hfl8 x m (by rw [e]; simpa using my)⟩
    -- pace
    refine ⟨fun σ' G => ∃ pace : Int, σ' = ([some (.ref b), some (.int many), some (.int most), some (.ref pn), some (.int pace), none, none, none, none, none, none] : L2.St) ∧ 3 ≤ pace ∧ pace ≤ 9 ∧ But b G1 G, ?_, ?_⟩
    · exact ⟨_, rfl, b, 7, rfl, bag1, by decide, by decide, fun G2 v but2 bag2 v0 v1 => ⟨_, _, rfl, rfl, 3 + v, rfl, by omega, by omega, but2⟩⟩
    rintro _ G2 ⟨pace, rfl, p0, p1, but2⟩
    have bag2 := bag1.but but2
    have at_n2 := but2.1 _ _ nb at_n
    -- found
    refine ⟨fun σ' G => ∃ (pf : Addr) (fv : List V) (ms : List Mach), σ' = ([some (.ref b), some (.int many), some (.int most), some (.ref pn), some (.int pace), some (.ref pf), none, none, none, none, none] : L2.St) ∧ But b G2 G ∧ G2 pf = none ∧ pf ≠ b ∧ G pf = some (.lst fv) ∧
      MachsAt K [b] G fv ms ∧ ms.map (·.1) = ns ++ [("fill" : Str)] ∧ (∀ m ∈ ms, MachOk most m) ∧ (("fill" : Str), pace, []) ∈ ms, ?_, ?_⟩
    · refine ⟨_, rfl, 1, rfl, -1, rfl, pn, _, rfl, SqL.of at_n2, fun c nc => ?_⟩
      have e0 : cutV ((ns ++ [("fill" : Str)]).map V.str) none (some (-1)) = ns.map V.str := by
        rw [List.map_append]
        exact cut_last _ _
      rw [e0]
      have t1 : But b G2 (upd G2 c (.lst (ns.map V.str))) := (But.refl b G2).new nc
      have cb := (But.free (But.refl b G2) bag2 nc).1
      have at_c : upd G2 c (.lst (ns.map V.str)) c = some (.lst (ns.map V.str)) := upd_same
      generalize upd G2 c (.lst (ns.map V.str)) = Ga at t1 at_c
      have baga := bag2.but t1
      refine ⟨c, rfl, ⟨_, SqL.of at_c⟩, fun D nD => ?_⟩
      obtain ⟨Db, D0⟩ := But.free t1 baga nD
      obtain ⟨_, Da⟩ := But.free (But.refl b Ga) baga nD
      have cD : c ≠ D := ne_of_none at_c nD
      refine lc_list (K := K) (a := c) (xs := ns.map V.str) (fun i G => ∃ (fv : List V) (ms : List Mach), But b Ga G ∧ G D = some (.lst fv) ∧ MachsAt K [b] G fv ms ∧ ms.map (·.1) = ns.take i ∧ ∀ m ∈ ms, MachOk most m) ?_ (fun i G _ ⟨_, _, s, _⟩ => SqL.of (s.1 _ _ cb at_c)) ?_ ?_
      · exact ⟨[], [], (But.refl b Ga).new nD, upd_same, .nil, rfl, fun m no => nomatch no⟩
      · rintro i v G at_i ⟨fv, ms1, s, at_D, mt_, nm_, ok_⟩
        rw [List.getElem?_map] at at_i
        obtain ⟨y, ey, rfl⟩ := Option.map_eq_some_iff.mp at_i
        have lt : i < ns.length := (List.getElem?_eq_some_iff.mp ey).1
        have bagG := baga.but s
        refine ⟨rfl, _, rfl, _, rfl, _, rfl, b, pace, rfl, bagG, by omega, by omega, fun G5 u but5 bag5 u0 u1 => ⟨_, _, rfl, rfl, _, rfl, _, rfl, b, most, rfl, bag5, m0, m1, fun G6 p ps but6 p0' dt lp each => ⟨len_line (by show 3 ≤ 100000; decide), fun t nt => ?_⟩⟩⟩
        have s6 := but5.trans but6
        have bag6 := bag5.but but6
        have at6 := s6.1 _ _ Db at_D
        have tb := (But.free (But.refl b G6) bag6 nt).1
        have tD : D ≠ t := ne_of_none at6 nt
        have s7 : But b G6 (upd G6 t (.tup [.str y, .int (1 + u), .ref p])) := (But.refl b G6).new nt
        refine ⟨fv, by rw [upd_ne tD]; exact at6, small1000 ?_, fv ++ [.ref t], ms1 ++ [(y, 1 + u, ps)], ((s.trans s6).trans s7).put Da Db, upd_same, ?_, ?_, ?_⟩
        · have := mt_.len
          have := congrArg List.length nm_
          rw [List.length_map, List.length_take] at this
          omega
        · have keep : ∀ q o, dls [b] G6 q = some o → (∀ xs, o ≠ .lst xs) → dls [b] (upd (upd G6 t (.tup [.str y, .int (1 + u), .ref p])) D (.lst (fv ++ [.ref t]))) q = some o := fun q o e no => by
            obtain ⟨n, e1⟩ := dls_sub q o e
            refine dls_at n ?_
            have qD : q ≠ D := fun z => by
              rw [z, at6] at e1
              cases e1
              exact no _ rfl
            rw [upd_ne qD, upd_ne (ne_of_none e1 nt)]
            exact e1
          refine MachsAt.snoc ⟨t, p, rfl, by simpa using tb, by rw [upd_ne tD.symm, upd_same], ?_⟩ ?_
          · refine strip keep (purses_noList _) (Dat.up (fun q o e => ?_) dt)
            have qb : q ≠ b := fun z => by
              rw [z, del_same] at e
              cases e
            rw [del_ne qb] at e
            exact dls_at (by simpa using qb) e
          · have m6 : MachsAt K [b] G6 fv ms1 := mt_.off (OffS.but (.head _) s6)
            exact m6.keepN keep
        · rw [List.map_append, nm_, List.take_succ, ey]
          rfl
        · intro m mm
          rcases List.mem_append.mp mm with mm | mm
          · exact ok_ m mm
          · have e : m = (y, 1 + u, ps) := by simpa using mm
            subst e
            exact ⟨by show 1 ≤ 1 + u; omega, by show 1 + u ≤ 10; omega, lp, each⟩
      · rintro G ⟨fv, ms1, s, at_D, mt_, nm_, ok_⟩
        rw [List.length_map, List.take_length] at nm_
        have bagG := baga.but s
        refine ⟨_, rfl, len_line (by show 0 ≤ 100000; decide), fun t0 nt0 => ⟨len_line (by show 3 ≤ 100000; decide), fun t nt => ⟨len_line (by show 1 ≤ 100000; decide), fun l nl => ?_⟩⟩⟩
        have k1 : Same G (upd G t0 (.tup [])) := same_new nt0
        have k2 : Same (upd G t0 (.tup [])) (upd (upd G t0 (.tup [])) t (.tup [.str "fill", .int pace, .ref t0])) := same_new nt
        have k3 : Same (upd (upd G t0 (.tup [])) t (.tup [.str "fill", .int pace, .ref t0])) (upd (upd (upd G t0 (.tup [])) t (.tup [.str "fill", .int pace, .ref t0])) l (.lst [.ref t])) := same_new nl
        have k123 := (k1.trans k2).trans k3
        have mlen := mt_.len
        have nlen := congrArg List.length nm_
        rw [List.length_map] at nlen
        refine ⟨D, l, _, _, rfl, rfl, k123 _ _ at_D, upd_same, len_line (by show fv.length + 1 ≤ _; omega), fun pf npf => ?_⟩
        have k4 := same_new (o := .lst (fv ++ [.ref t])) npf
        have k := k123.trans k4
        have bag3 := bagG.but (But.of k123)
        have f1 := But.free (t1.trans (s.trans (But.of k123))) bag3 npf
        have t0b := (But.free (But.refl b G) bagG nt0).1
        have tb := (But.free (But.of k1) (bagG.but (But.of k1)) nt).1
        refine ⟨pf, fv ++ [.ref t], ms1 ++ [(("fill" : Str), pace, [])], rfl, t1.trans (s.trans (But.of k)), f1.2, f1.1, upd_same, MachsAt.snoc ⟨t, t0, rfl, by simpa using tb, (k3.trans k4) _ _ upd_same, ?_⟩ (mt_.off (OffS.same k)), by rw [List.map_append, nm_]; rfl, ?_, by simp⟩
        · exact .tup (.inl (.inl (dls_at (by simpa using t0b) (((k2.trans k3).trans k4) _ _ upd_same)))) .nil
        · intro m mm
          rcases List.mem_append.mp mm with mm | mm
          · exact ok_ m mm
          · have e : m = (("fill" : Str), pace, []) := by simpa using mm
            subst e
            exact ⟨by show 1 ≤ pace; omega, by show pace ≤ 10; omega, Nat.zero_le _, fun x no => nomatch no⟩
    rintro _ G3 ⟨pf, fv, ms', rfl, but3, pf0, pfb, at_f, mats, mnames, mok, mpace⟩
    have bag3 := bag2.but but3
    have at_n3 := but3.1 _ _ nb at_n2
    have alen : (ns ++ [("fill" : Str)]).length = many + 1 := by rw [List.length_append, len]; rfl
    refine ⟨Nat.zero_le _, fun pb npb => ?_⟩
    obtain ⟨pbb, pb3⟩ := But.free (But.refl b G3) bag3 npb
    have s4 : But b G3 (upd G3 pb (.lst [])) := (But.refl b G3).new npb
    have at_b4 : upd G3 pb (.lst []) pb = some (.lst []) := upd_same
    generalize upd G3 pb (.lst []) = G4 at s4 at_b4
    -- belts
    refine ⟨fun σ' G => ∃ (v7 v8 v9 : Option V) (bv : List V) (bs : List Belt), σ' = ([some (.ref b), some (.int many), some (.int most), some (.ref pn), some (.int pace), some (.ref pf), some (.ref pb), v7, v8, v9, none] : L2.St) ∧ But b G3 G ∧ G pb = some (.lst bv) ∧ DatAll K (dls [b] G) bv (bs.map beltD) ∧
      bs.length = many ∧ (∀ m ∈ bs, BeltOk (ns ++ [("fill" : Str)]) m) ∧ ∀ i x y, (ns ++ [("fill" : Str)])[i]? = some x → (ns ++ [("fill" : Str)])[i + 1]? = some y → ∃ m ∈ bs, m.1 = x ∧ m.2.1 = y, ?_, ?_⟩
    · obtain ⟨z, zs, ez⟩ : ∃ z zs, ns ++ [("fill" : Str)] = z :: zs := by
        cases ns with
        | nil => exact ⟨_, _, rfl⟩
        | cons z zs => exact ⟨_, _, rfl⟩
      have zl : zs.length = many := by
        have := congrArg List.length ez
        rw [alen, List.length_cons] at this
        omega
      refine ⟨_, rfl, _, rfl, 1, rfl, pn, _, rfl, SqL.of (s4.1 _ _ nb at_n3), fun c nc => ?_⟩
      have e0 : cutV ((ns ++ [("fill" : Str)]).map V.str) (some 1) none = zs.map V.str := by
        rw [ez, List.map_cons]
        exact cut_rest _ _
      rw [e0]
      have s5 : But b G3 (upd G4 c (.lst (zs.map V.str))) := s4.new nc
      have cb := (But.free s4 (bag3.but s4) nc).1
      have c4 : c ≠ pb := (ne_of_none at_b4 nc).symm
      have at_c : upd G4 c (.lst (zs.map V.str)) c = some (.lst (zs.map V.str)) := upd_same
      have at_b5 : upd G4 c (.lst (zs.map V.str)) pb = some (.lst []) := by rw [upd_ne c4.symm]; exact at_b4
      have base_ : ∀ p o, (p ≠ b ∧ p ≠ pb) → upd G4 c (.lst (zs.map V.str)) p = some o → True := fun _ _ _ _ => trivial
      generalize eG : upd G4 c (.lst (zs.map V.str)) = G5 at s5 at_c at_b5
      refine ⟨pn, c, _, _, rfl, SqL.of (s5.1 _ _ nb at_n3), SqL.of at_c, ?_⟩
      refine for_zipU (K := K) (a := pn) (b := c) (xs := (ns ++ [("fill" : Str)]).map V.str) (ys := zs.map V.str) (by rw [List.length_map, List.length_map]; omega) (fun i σ' G => ∃ (v7 v8 v9 : Option V) (bv : List V) (bs : List Belt), σ' = ([some (.ref b), some (.int many), some (.int most), some (.ref pn), some (.int pace), some (.ref pf), some (.ref pb), v7, v8, v9, none] : L2.St) ∧ But b G3 G ∧ G c = some (.lst (zs.map V.str)) ∧ G pb = some (.lst bv) ∧ DatAll K (dls [b] G) bv (bs.map beltD) ∧
        bs.length = i ∧ (∀ m ∈ bs, BeltOk (ns ++ [("fill" : Str)]) m) ∧ ∀ j x y, j < i → (ns ++ [("fill" : Str)])[j]? = some x → (ns ++ [("fill" : Str)])[j + 1]? = some y → ∃ m ∈ bs, m.1 = x ∧ m.2.1 = y) ?_ (fun i σ' G ⟨_, _, _, _, _, _, s, atc, _⟩ => ⟨SqL.of (s.1 _ _ nb at_n3), SqL.of atc⟩) ?_ ?_
      · exact ⟨none, none, none, [], [], rfl, s5, at_c, at_b5, .nil, rfl, (fun m no => nomatch no), fun j x y lt => absurd lt (Nat.not_lt_zero _)⟩
      · rintro i x y T _ G at_x at_y ⟨v7, v8, v9, bv, bs, rfl, s, atc, atb, db, lb, okb, adj⟩ nT
        rw [List.getElem?_map] at at_x at_y
        obtain ⟨x1, ex, rfl⟩ := Option.map_eq_some_iff.mp at_x
        obtain ⟨y1, ey, rfl⟩ := Option.map_eq_some_iff.mp at_y
        have ey2 : (ns ++ [("fill" : Str)])[i + 1]? = some y1 := by
          rw [ez]
          exact ey
        have il : i < zs.length := (List.getElem?_eq_some_iff.mp ey).1
        have bagG := bag3.but s
        have s6 : But b G3 (upd G T (.tup [.str x1, .str y1])) := s.new nT
        have k6 : But b G (upd G T (.tup [.str x1, .str y1])) := (But.refl b G).new nT
        refine ⟨T, _, rfl, SqT.of upd_same, rfl, _, _, rfl, _, _, rfl, rfl, _, rfl, b, 5, rfl, bagG.new nT, by decide, by decide, fun G7 u but7 bag7 u0 u1 => ⟨_, _, rfl, rfl, ?_⟩⟩
        have k7 := k6.trans but7
        have atb7 := k7.1 _ _ pbb atb
        refine ⟨_, rfl, .inl ⟨rfl, _, SqL.of atb7⟩, _, rfl, _, rfl, _, rfl, _, rfl, len_line (by show 4 ≤ 100000; decide), fun t nt => ?_⟩
        have tb := (But.free (But.refl b G7) bag7 nt).1
        have tp : pb ≠ t := ne_of_none atb7 nt
        have blen := dats_len db
        rw [List.length_map] at blen
        have xm : x1 ∈ ns ++ [("fill" : Str)] := List.mem_of_getElem? ex
        have ym : y1 ∈ ns ++ [("fill" : Str)] := List.mem_of_getElem? ey2
        have xy : x1 ≠ y1 := fun z => by
          have h1 := (List.getElem?_eq_some_iff.mp ex)
          have h2 := (List.getElem?_eq_some_iff.mp ey2)
          obtain ⟨l1, q1⟩ := h1
          obtain ⟨l2, q2⟩ := h2
          exact List.pairwise_iff_getElem.mp nodup2 i (i + 1) l1 l2 (Nat.lt_succ_self i) (by rw [q1, q2, z])
        refine ⟨pb, bv, .ref t, rfl, rfl, by rw [upd_ne tp]; exact atb7, small1000 (by omega), _, _, _, bv ++ [.ref t], bs ++ [(x1, y1, 1 + u, 1 + u)], rfl, ((s.trans k7).new nt).put pb3 pbb, ?_, upd_same, ?_, by rw [List.length_append, lb]; rfl, ?_, ?_⟩
        · have cp : c ≠ pb := c4
          have atc7 := k7.1 _ _ cb atc
          rw [upd_ne cp, upd_ne (ne_of_none atc7 nt)]
          exact atc7
        · have keep : ∀ q o, dls [b] G7 q = some o → (∀ xs, o ≠ .lst xs) → dls [b] (upd (upd G7 t (.tup [.str x1, .str y1, .int (1 + u), .int (1 + u)])) pb (.lst (bv ++ [.ref t]))) q = some o := fun q o e no => by
            obtain ⟨n, e1⟩ := dls_sub q o e
            refine dls_at n ?_
            have qp : q ≠ pb := fun z => by
              rw [z, atb7] at e1
              cases e1
              exact no _ rfl
            rw [upd_ne qp, upd_ne (ne_of_none e1 nt)]
            exact e1
          rw [List.map_append]
          have offG : OffS [b] G G7 := OffS.but (.head _) k7
          exact DatAll.snoc2 (strips keep (belts_noList bs) (DatAll.up offG.dls db)) (.tup (.inl (.inl (dls_at (by simpa using tb) (by rw [upd_ne tp.symm, upd_same])))) (.cons (.str _) (.cons (.str _) (.cons (.int _) (.cons (.int _) .nil)))))
        · intro m mm
          rcases List.mem_append.mp mm with mm | mm
          · exact okb m mm
          · have e : m = (x1, y1, 1 + u, 1 + u) := by simpa using mm
            subst e
            exact ⟨xy, xm, ym, by show 1 ≤ 1 + u; omega, by show 1 + u ≤ 5; omega, by show 0 ≤ 1 + u; omega, Int.le_refl _⟩
        · intro j x2 y2 lt e1 e2
          by_cases q : j < i
          · obtain ⟨m, mm, h⟩ := adj j x2 y2 q e1 e2
            exact ⟨m, List.mem_append_left _ mm, h⟩
          · obtain rfl : j = i := by omega
            rw [ex] at e1
            rw [ey2] at e2
            cases e1
            cases e2
            exact ⟨_, List.mem_append_right _ (.head _), rfl, rfl⟩
      · rintro _ G ⟨v7, v8, v9, bv, bs, rfl, s, atc, atb, db, lb, okb, adj⟩
        rw [List.length_map] at lb adj
        refine ⟨v7, v8, v9, bv, bs, rfl, s, atb, db, by omega, okb, fun i x y e1 e2 => adj i x y ?_ e1 e2⟩
        have := (List.getElem?_eq_some_iff.mp e2).1
        rw [alen] at this
        omega
    rintro _ G5 ⟨v7, v8, v9, bv0, bs2, rfl, s5, at_b5, db5, lb5, okb5, adj5⟩
    have at_f5 := s5.1 _ _ pfb at_f
    have at_n5 := s5.1 _ _ nb at_n3
    have bf : pb ≠ pf := (ne_of_none at_f npb).symm
    have bn : pb ≠ pn := (ne_of_none at_n3 npb).symm
    have fn : pf ≠ pn := fun z => by
      rw [z, at_n2] at pf0
      cases pf0
    have but13 := but2.trans but3
    have at_n1 : G1 pn = some (.lst ((ns ++ [("fill" : Str)]).map V.str)) := at_n
    have pf1 : G1 pf = none := by
      cases e : G1 pf with
      | none => rfl
      | some o =>
        have := but2.1 _ _ pfb e
        rw [pf0] at this
        cases this
    have pb1 : G1 pb = none := by
      cases e : G1 pb with
      | none => rfl
      | some o =>
        have := but13.1 _ _ pbb e
        rw [npb] at this
        cases this
    have wide : ∀ q ∈ [b, pf, pb, pn], q ∉ [b] → ∃ xs, G5 q = some (.lst xs) := fun q m n => by
      simp only [List.mem_cons, List.not_mem_nil, or_false] at m n
      rcases m with e | e | e | e
      · exact absurd e n
      · exact ⟨_, e ▸ at_f5⟩
      · exact ⟨_, e ▸ at_b5⟩
      · exact ⟨_, e ▸ at_n5⟩
    -- as Fills, from the heap ahead of all three lists
    have but05 : But b H G5 := but1.trans (but13.trans s5)
    have pfH : H pf = none := (by
      cases e : H pf with
      | none => rfl
      | some o =>
        have := but1.1 _ _ pfb e
        rw [pf1] at this
        cases this)
    have pbH : H pb = none := (by
      cases e : H pb with
      | none => rfl
      | some o =>
        have := but1.1 _ _ pbb e
        rw [pb1] at this
        cases this)
    have lone : Lone H b pf pb pn := ⟨pfH, pbH, n0, pfb, pbb, nb, bf, fn.symm, bn.symm⟩
    have fi5 : Fills K H b pf pb pn most ("fill" : Str) pace (ns ++ [("fill" : Str)]) (ns ++ [("fill" : Str)]) ms' bs2 G5 :=
      ⟨but05, ⟨fv, at_f5, (mats.off (OffS.but (.head _) s5)).widen wide⟩, ⟨bv0, at_b5, strips (K24.widen wide) (belts_noList bs2) db5⟩, at_n5, mnames, mok, okb5, line_reach adj5, mpace⟩
    have bg : ∀ {G' : Hp}, But b H G' → BagAt G' b := fun s => bag.but s
    have jlen := alen
    obtain ⟨fv, f1, f2⟩ := fi5.at_f
    obtain ⟨bv, b1, b2⟩ := fi5.at_b
    have keys : fv.map (keyAt G5) = ns ++ [("fill" : Str)] := by rw [f2.keys, fi5.names]
    have ndk : (ns ++ [("fill" : Str)]).Nodup := nodup2
    have msl : ms'.length = many + 1 := by
      rw [← List.length_map (f := (·.1)) (as := ms'), fi5.names, jlen]
    have S4 : ∀ {p : Addr}, p ∈ [b, pf, pb, pn] → True := fun _ => trivial
    refine ⟨_, rfl, pf, fv, keyAt G5, rfl, SqL.of f1, ?_, inj_of (by rw [keys]; exact ndk), fun ys q asc perm nq => ?_⟩
    · intro x m
      obtain ⟨mm, _, t, p, e, _, at_t, _⟩ := f2.mem x m
      subst e
      exact ⟨t, p, mm.2.1, rfl, by rw [key_of at_t]; exact at_t⟩
    have bq := bg fi5.but
    obtain ⟨qb, q0⟩ := But.free (But.refl b G5) bq nq
    have c6 : But b G5 (upd G5 q (.lst ys)) := (But.refl b G5).new nq
    refine ⟨q, ys, rfl, .inl ⟨SqL.of upd_same, fun l nl => ?_⟩⟩
    have c7 := c6.new (o := .tup ys) nl
    have fi7 := fi5.step lone c7
    obtain ⟨lb7, l6⟩ := But.free c6 (bq.but c6) nl
    have b7 := c7.1 _ _ lone.bb b1
    refine ⟨_, rfl, _, rfl, b, pb, bv, rfl, bg fi7.but, SqL.of b7, lone.bb, ?_, fun G8 q2 zs but8 bag8 q20 q2b at_q2 perm2 => ?_⟩
    · have := fi7.len_b b7
      omega
    refine ⟨q2, zs, rfl, .inl ⟨SqL.of at_q2, fun l2 nl2 => ?_⟩⟩
    have c9 : But b G8 (upd G8 l2 (.tup zs)) := (But.refl b G8).new nl2
    obtain ⟨l2b, _⟩ := But.free (But.refl b G8) bag8 nl2
    refine ⟨len_line (by show 3 ≤ 100000; decide), fun r nr => ?_⟩
    have bag9 := bag8.but c9
    have c10 : But b (upd G8 l2 (.tup zs)) (upd (upd G8 l2 (.tup zs)) r (.tup [.ref l, .ref l2, .str ("fill" : Str)])) := (But.refl b _).new nr
    obtain ⟨rb, _⟩ := But.free (But.refl b _) bag9 nr
    have sEnd : But b H (upd (upd G8 l2 (.tup zs)) r (.tup [.ref l, .ref l2, .str ("fill" : Str)])) := ((fi7.but.trans but8).trans c9).trans c10
    have r0 : H r = none := (But.free (fi7.but.trans (but8.trans c9)) bag9 nr).2
    obtain ⟨ms2, pm, at_ys⟩ := f2.perm perm
    obtain ⟨bs3, pbs, at_zs⟩ := dats_perm perm2 b2
    have up5 : ∀ p o, dls [b, pf, pb, pn] G5 p = some o → del (upd (upd G8 l2 (.tup zs)) r (.tup [.ref l, .ref l2, .str ("fill" : Str)])) b p = some o := fun p o e => by
      obtain ⟨n, e1⟩ := dls_sub p o e
      have pb' : p ≠ b := fun z => n (by rw [z]; simp)
      rw [del_ne pb']
      exact (((c7.trans but8).trans c9).trans c10).1 _ _ pb' e1
    have at_l : del (upd (upd G8 l2 (.tup zs)) r (.tup [.ref l, .ref l2, .str ("fill" : Str)])) b l = some (.tup ys) := by
      rw [del_ne lb7]
      exact ((but8.trans c9).trans c10).1 _ _ lb7 upd_same
    have at_l2 : del (upd (upd G8 l2 (.tup zs)) r (.tup [.ref l, .ref l2, .str ("fill" : Str)])) b l2 = some (.tup zs) := by
      rw [del_ne l2b]
      exact c10.1 _ _ l2b upd_same
    have mem2 : ∀ m, m ∈ ms2 ↔ m ∈ ms' := fun m => pm.mem_iff
    have bmem : ∀ m, m ∈ bs3 ↔ m ∈ bs2 := fun m => pbs.mem_iff
    have names2 : (ms2.map (·.1)).Perm (ns ++ [("fill" : Str)]) := by
      rw [← fi5.names]
      exact pm.map _
    refine fin _ r ⟨ms2, bs3, ("fill" : Str)⟩ sEnd r0 rb ?_ ⟨?_, fun m x => fi5.msok m ((mem2 m).mp x), ?_, .inl rfl, ⟨pace, (mem2 _).mpr fi5.paced, Int.le_trans (by decide) p0, by omega⟩, ?_, ?_, ?_, ?_⟩ ?_
    · refine .tup (.inl (.inl (dt_at rb upd_same))) (.cons (.tup (.inl (.inl at_l)) (DatAll.up up5 at_ys.dats)) (.cons (.tup (.inl (.inl at_l2)) (DatAll.up up5 at_zs)) (.cons (.str _) .nil)))
    · have keys2 : ys.map (keyAt G5) = ms2.map (·.1) := at_ys.keys
      show (ms2.map (·.1)).Pairwise fun x y => ahead x y = true
      rw [← keys2, List.pairwise_map]
      have nd2 : (ys.map (keyAt G5)).Nodup := by
        rw [keys2]
        exact names2.nodup_iff.mpr ndk
      have both : ys.Pairwise fun x y => ahead (keyAt G5 y) (keyAt G5 x) = false ∧ keyAt G5 x ≠ keyAt G5 y := List.Pairwise.and asc (List.pairwise_map.mp nd2)
      exact both.imp fun h => ahead_total h.1 h.2
    · intro m x
      have : m.1 ∈ ns ++ [("fill" : Str)] := names2.mem_iff.mp (List.mem_map.mpr ⟨m, x, rfl⟩)
      rcases List.mem_append.mp this with h | h
      · exact .inr (sub _ h)
      · exact .inl (by simpa using h)
    · intro m x
      obtain ⟨h1, h2, h3, h4⟩ := fi5.bsok m ((bmem m).mp x)
      exact ⟨h1, names2.mem_iff.mpr h2, names2.mem_iff.mpr h3, h4⟩
    · intro m x
      have : m.1 ∈ ns ++ [("fill" : Str)] := names2.mem_iff.mp (List.mem_map.mpr ⟨m, x, rfl⟩)
      exact (fi5.join _ this).more fun z y => (bmem z).mpr y
    · show ms2.length ≤ 9
      rw [pm.length_eq]
      omega
    · show bs3.length ≤ 10
      rw [pbs.length_eq]
      omega
    · show ms2.length = many + 1
      rw [pm.length_eq, msl]
end
end K24

namespace Vd
open PySem PySem.Spec PyProof.Rows L2
section
open AutoSeq1 MeetsSeq MeetsSeq2 MeetsSeq3 SeqRoads2
variable {prog : Program} {w : World}
theorem eqDiff (l b : Addr) (xs ys : Array Value) (n m : Nat) (d1 d2 : Option Addr) (s1 s2 : Array (Option Value)) (ne : (xs.size != ys.size) = true) :
    MeetsIn prog w (Builtin.«list.__eq__» ⟨[.ref l, .ref b], []⟩)
      (fun A R s => s.heap.get? l = some { cls := .type "list", dict := d1, data := .seq xs n, slots := s1 } ∧ s.heap.get? b = some { cls := .type "list", dict := d2, data := .seq ys m, slots := s2 } ∧ R (.ok (.ret (.bool false))) s) := by
  refine MeetsIn.of_wp fun A R s h => ?_
  obtain ⟨hp, g, d, tk, os⟩ := s
  obtain ⟨hl, hb, h⟩ := h
  have both := AutoSeq1.sub_list_list
  wp_walk using wpAny_loadPart' hl, wpAny_loadPart' hb
  exact ⟨_, rfl, h⟩
theorem rcDiff {A : Around} {s : Shared} {l b : Addr} {xs ys : Array Value} (hl : s.heap.IsList l xs) (hb : s.heap.IsList b ys) (ne : (xs.size != ys.size) = true) (room : A.units < cLine) (E Q : Value → Shared → Prop) (h : Q (.bool false) s) :
    wpAny (model prog w) A (richCompare .Eq (.ref l) (.ref b)) Q E s := by
  obtain ⟨⟨_, d1, _, s1⟩, o1, rfl, n, rfl⟩ := id hl
  obtain ⟨⟨_, d2, _, s2⟩, o2, rfl, m, rfl⟩ := id hb
  have t1 : s.TypeIs (.ref l) "list" := ⟨_, o1, rfl⟩
  refine wpAny_richCompare_same_room (op := .Eq) t1 ⟨_, o2, rfl⟩ F.slot_list_eq ?_ room
  exact call_meetsIn F.slot_list_eq t1 F.entry_list_eq (F.args_list_eq_2 _ _) (eqDiff l b xs ys n m d1 d2 s1 s2 ne) ⟨o1, o2, (show Value.bool false ≠ Value.notImplemented ∧ Q (.bool false) s from ⟨fun no => (nomatch no), h⟩)⟩
end
section
variable {X : Cx}
/-- == and != of any two shaped data -/
theorem op_eqG (room : X.A.units + 64 < cLine) : OpR X (compareOp .Eq) (fun x y H Q => ∃ d e, Dat X.K H x d ∧ Dat X.K H y e ∧ SeqAt.shaped d = true ∧ SeqAt.shaped e = true ∧ Q (.bl (PyData.eqv d e)) H) := by
  rintro pins s σ H x y u v Q I rx ry ⟨d, e, h1, h2, s1, s2, q⟩
  obtain ⟨as, r1⟩ := (Dat.rds I d x u h1 rx).reads
  obtain ⟨bs, r2⟩ := (Dat.rds I e y v h2 ry).reads
  exact SeqAt.compareEq_shaped r1 r2 s1 s2 room ⟨.bl _, H, I, rfl, q⟩
theorem op_neG (room : X.A.units + 64 < cLine) : OpR X (compareOp .NotEq) (fun x y H Q => ∃ d e, Dat X.K H x d ∧ Dat X.K H y e ∧ SeqAt.shaped d = true ∧ SeqAt.shaped e = true ∧ Q (.bl (!PyData.eqv d e)) H) := by
  rintro pins s σ H x y u v Q I rx ry ⟨d, e, h1, h2, s1, s2, q⟩
  obtain ⟨as, r1⟩ := (Dat.rds I d x u h1 rx).reads
  obtain ⟨bs, r2⟩ := (Dat.rds I e y v h2 ry).reads
  exact SeqAt.compareNe_shaped r1 r2 s1 s2 room ⟨.bl _, H, I, rfl, q⟩
/-- xs == [] -/
theorem op_eqNil (room : X.A.units + 64 < cLine) : OpR X (compareOp .Eq) (fun x y H Q => ∃ a b xs, x = .ref a ∧ y = .ref b ∧ SqL X.K H a xs ∧ SqL X.K H b [] ∧ Q (.bl xs.isEmpty) H) := by
  rintro pins s σ H x y u v Q I rx ry ⟨a, b, xs, rfl, rfl, h1, h2, q⟩
  cases xs with
  | nil => exact op_eqG room pins s σ H _ _ u v Q I rx ry ⟨.list [], .list [], .lst h1 .nil, .lst h2 .nil, by decide +kernel, by decide +kernel, by
      have e : PyData.eqv (.list []) (.list []) = true := by decide +kernel
      rw [e]
      exact q⟩
  | cons z zs =>
    cases rx
    cases ry
    obtain ⟨its, r1, p1, f1⟩ := I.list h1
    obtain ⟨its2, r2, p2, f2⟩ := I.list h2
    cases r2
    cases r1 with
    | cons r11 r12 =>
      exact rcDiff p1.isList p2.isList (by simp) (by omega) _ _ ⟨.bl false, H, I, rfl, q⟩
end
end Vd

namespace Vd
open PySem PySem.Spec PyProof.Rows L2
/-! ### the members of a row, each once -/
def once {α : Type} [DecidableEq α] : List α → List α → List α
  | acc, [] => acc
  | acc, x :: xs => once (if x ∈ acc then acc else acc ++ [x]) xs
theorem once_snoc {α : Type} [DecidableEq α] : ∀ (xs acc : List α) (x : α), once acc (xs ++ [x]) = if x ∈ once acc xs then once acc xs else once acc xs ++ [x]
  | [], _, _ => rfl
  | _ :: xs, _, x => once_snoc xs _ x
theorem once_mem {α : Type} [DecidableEq α] : ∀ (xs acc : List α) (y : α), y ∈ once acc xs ↔ y ∈ acc ∨ y ∈ xs
  | [], acc, y => by simp [once]
  | x :: xs, acc, y => by
    show y ∈ once (if x ∈ acc then acc else acc ++ [x]) xs ↔ _
    rw [once_mem xs _ y]
    by_cases h : x ∈ acc
    · rw [if_pos h, List.mem_cons]
      constructor
      · rintro (a | a)
        · exact .inl a
        · exact .inr (.inr a)
      · rintro (a | a | a)
        · exact .inl a
        · exact .inl (a ▸ h)
        · exact .inr a
    · rw [if_neg h]
      simp only [List.mem_append, List.mem_cons, List.not_mem_nil, or_false]
      constructor
      · rintro ((a | a) | a)
        · exact .inl a
        · exact .inr (.inl a)
        · exact .inr (.inr a)
      · rintro (a | a | a)
        · exact .inl (.inl a)
        · exact .inl (.inr a)
        · exact .inr a
theorem once_nodup {α : Type} [DecidableEq α] : ∀ (xs acc : List α), acc.Nodup → (once acc xs).Nodup
  | [], _, h => h
  | x :: xs, acc, h => by
    refine once_nodup xs _ ?_
    by_cases m : x ∈ acc
    · rw [if_pos m]; exact h
    · rw [if_neg m]
      refine List.nodup_append.mpr ⟨h, by simp, fun a ha b hb e => ?_⟩
      have : b = x := by simpa using hb
      exact m (this ▸ e ▸ ha)
theorem once_len {α : Type} [DecidableEq α] : ∀ (xs acc : List α), (once acc xs).length ≤ acc.length + xs.length
  | [], _ => Nat.le_refl _
  | x :: xs, acc => by
    refine Nat.le_trans (once_len xs _) ?_
    by_cases m : x ∈ acc
    · rw [if_pos m, List.length_cons]; omega
    · rw [if_neg m, List.length_append]
      show acc.length + 1 + xs.length ≤ acc.length + (xs.length + 1)
      omega
/-- as many as there are: no one twice -/
theorem once_full {α : Type} [DecidableEq α] : ∀ (xs acc : List α), acc.Nodup → (∀ x ∈ xs, x ∉ acc) → ((once acc xs).length = acc.length + xs.length ↔ xs.Nodup)
  | [], acc, _, _ => ⟨fun _ => List.nodup_nil, fun _ => rfl⟩
  | x :: xs, acc, na, ap => by
    have h : x ∉ acc := ap x (.head _)
    show (once (if x ∈ acc then acc else acc ++ [x]) xs).length = acc.length + (xs.length + 1) ↔ _
    rw [if_neg h]
    have len := once_len xs (acc ++ [x])
    have na2 : (acc ++ [x]).Nodup := by
      refine List.nodup_append.mpr ⟨na, by simp, fun a ha b hb e => ?_⟩
      have : b = x := by simpa using hb
      exact h (this ▸ e ▸ ha)
    by_cases m : x ∈ xs
    · refine ⟨fun e => ?_, fun n => absurd m (List.nodup_cons.mp n).1⟩
      have big : ∀ (ys bcc : List α), x ∈ ys → x ∈ bcc → (once bcc ys).length < bcc.length + ys.length := fun ys => by
        induction ys with
        | nil => intro bcc hy; cases hy
        | cons y ys ih =>
          intro bcc hy hb
          show (once (if y ∈ bcc then bcc else bcc ++ [y]) ys).length < _
          by_cases q : y ∈ bcc
          · rw [if_pos q, List.length_cons]
            have := once_len ys bcc
            omega
          · rw [if_neg q]
            have xy : x ∈ ys := by
              cases hy with
              | head => exact absurd hb q
              | tail _ hy => exact hy
            have := ih (bcc ++ [y]) xy (List.mem_append_left _ hb)
            rw [List.length_append] at this
            rw [List.length_cons]
            have e1 : [y].length = 1 := rfl
            omega
      have := big xs (acc ++ [x]) m (by simp)
      rw [List.length_append] at this
      have e1 : [x].length = 1 := rfl
      omega
    · have ih := once_full xs (acc ++ [x]) na2 fun y my z => by
        rcases List.mem_append.mp z with z | z
        · exact ap y (.tail _ my) z
        · exact m (by simpa using (by simpa using z : y = x) ▸ my)
      rw [List.length_append] at ih
      have e1 : [x].length = 1 := rfl
      rw [List.nodup_cons, ← ih]
      constructor
      · exact fun e => ⟨m, by omega⟩
      · exact fun e => by have := e.2; omega
/-! ### set(xs), xs a list of texts -/
instance keyLawful : LawfulBEq Key where
  eq_of_beq {a b} h := by
    cases a with
    | inl i =>
      cases b with
      | inl j => exact congrArg Sum.inl (eq_of_beq (show (i == j) = true from h))
      | inr y => exact nomatch (show false = true from h)
    | inr x =>
      cases b with
      | inl j => exact nomatch (show false = true from h)
      | inr y => exact congrArg Sum.inr (eq_of_beq (show (x == y) = true from h))
  rfl {a} := by
    cases a with
    | inl i => exact beq_self_eq_true i
    | inr x => exact beq_self_eq_true x
def KeysAre (us : List Value) (ks : List Key) : Prop := Vals (ks.map kV) us
theorem keys_at {us : List Value} {ks : List Key} (h : KeysAre us ks) (i : Nat) (v : Value) (e : us[i]? = some v) : ∃ k, ks[i]? = some k ∧ RelV (kV k) v := by
  have len : us.length = ks.length := by
    have := h.length
    rw [List.length_map] at this
    exact this.symm
  have lt : i < ks.length := by
    have := (List.getElem?_eq_some_iff.mp e).1
    omega
  have at_k : (ks.map kV)[i]? = some (kV ks[i]) := by
    rw [List.getElem?_map, List.getElem?_eq_getElem lt]
    rfl
  obtain ⟨u, eu, ru⟩ := h.get at_k
  rw [e] at eu
  cases eu
  exact ⟨_, List.getElem?_eq_getElem lt, ru⟩
def upTo (ks : List Key) (i : Nat) : List Key := once [] (ks.take i)
section
variable {P : Program} {w : World} {A : Around} {s : Shared}
def SetAt (P : Program) (w : World) (h : Heap) (S : Addr) (m : List Key) : Prop := h.SetOf (mixKind P w) S (fun k => decide (k ∈ m)) m.length
theorem SetAt.keep {h h' : Heap} {S : Addr} {m : List Key} (x : SetAt P w h S m) (k : ∀ o, h.get? S = some o → h'.get? S = some o) : SetAt P w h' S m := setOf_at x k
theorem fillLoop {R : Result → Shared → Prop} {I : Addr} {fp wr : List Addr} {G : Array GenState → Array GenState → Prop} {n : Nat} {T : Nat → Value → Prop} {St : Nat → Shared → Prop}
    (W : WalksS P w A.in1 I fp wr G n T St) (S : Addr) (out : S ∉ fp) (ks : List Key) (size : ks.length = n) (few : n < 1000) (val : ∀ i v, T i v → ∃ k, ks[i]? = some k ∧ RelV (kV k) v) :
    ∀ (left i : Nat) (s : Shared), n - i = left → i ≤ n → St i s → SetAt P w s.heap S (upTo ks i) → (∀ s', Moved (S :: wr) G s s' → SetAt P w s'.heap S (upTo ks n) → R (.ok (.ret .none)) s') →
      codeAny (model P w) A (.builtin "set.update.loop" ⟨[.ref S, .ref I], []⟩) R s := by
  have outw : S ∉ wr := fun z => out (W.sub _ z)
  have more : ∀ b ∈ wr, b ∈ S :: wr := fun b z => List.mem_cons_of_mem _ z
  intro left
  induction left with
  | zero =>
    intro i s e le st set fin
    obtain rfl : i = n := by omega
    refine codeAny_builtin PyProof.Rows.F.entry_set_update_loop ?_
    rw [Around.under_plainId PyProof.Rows.F.plain_set_update_loop _]
    show wpAny _ A.in1 (pyNext (.ref I) >>= _) _ _ s
    refine wpAny_bind (W.done s _ _ st fun s2 mv => ?_)
    show wpAny _ A.in1 (ret Value.none) _ _ s2
    exact wpAny_pure (fin s2 (mv.mono more) (set.keep fun o z => mv.heap S o outw z))
  | succ left ih =>
    intro i s e le st set fin
    have lt : i < n := by omega
    refine codeAny_builtin PyProof.Rows.F.entry_set_update_loop ?_
    rw [Around.under_plainId PyProof.Rows.F.plain_set_update_loop _]
    show wpAny _ A.in1 (pyNext (.ref I) >>= _) _ _ s
    refine wpAny_bind (W.item i s _ _ lt st fun v s2 tv st2 mv => ?_)
    obtain ⟨k, at_k, rk⟩ := val i v tv
    have set2 : SetAt P w s2.heap S (upTo ks i) := set.keep fun o z => mv.heap S o outw z
    have up : upTo ks (i + 1) = if k ∈ upTo ks i then upTo ks i else upTo ks i ++ [k] := by
      unfold upTo
      rw [List.take_succ, at_k]
      show once [] (ks.take i ++ [k]) = _
      rw [once_snoc]
      by_cases m : k ∈ once [] (ks.take i)
      · rw [if_pos m, if_pos m]
      · rw [if_neg m, if_neg m]
    have small : (upTo ks i).length + 1 < scanBound := by
      have := once_len (ks.take i) ([] : List Key)
      rw [List.length_take] at this
      have e0 : ([] : List Key).length = 0 := rfl
      unfold upTo scanBound
      omega
    show wpAny _ A.in1 (holding [v] (setAdd S v) >>= _) _ _ s2
    refine wpAny_bind (wpAny_holding ?_)
    unfold setAdd
    refine wpAny_holding ?_
    refine wpAny_bind ((mixKind P w).pyHash (k := k) (kV_is rk) ?_)
    refine wpAny_setAddHashed_of (knd := mixKind P w) (s := { s2 with toks := s2.toks + 1 }) (kV_is rk) (key_scan rk) set2 small fun h3 but set3 => ?_
    have set4 : SetAt P w h3 S (upTo ks (i + 1)) := by
      refine SetOf_congr (K := Key) (knd := mixKind P w) set3 (fun j => ?_) ?_
      · rw [up]
        by_cases m : k ∈ upTo ks i
        · rw [if_pos m]
          by_cases q : j = k
          · subst q
            simp [m]
          · simp [q]
        · rw [if_neg m]
          by_cases q : j = k
          · subst q
            simp
          · simp [q]
      · rw [up]
        by_cases m : k ∈ upTo ks i
        · rw [if_pos m, if_pos (decide_eq_true m)]
        · rw [if_neg m, if_neg (by simpa using m), List.length_append]
          rfl
    refine wpAny_pure ⟨plainId_quiet PyProof.Rows.F.plain_set_update_loop _, ih (i + 1) _ (by omega) lt (W.frame _ s2 _ _ st2 (Nat.le_succ _) fun b z o y => ?_) set4 fun s5 mv5 set5 => ?_⟩
    · rw [but.2 b fun q : b = S => out (by rw [← q]; exact z)]
      exact y
    · refine fin s5 (Moved.trans W.gtrans ((mv.mono more).then_heap (Nat.le_succ _) fun b o z y => ?_) mv5) set5
      rw [but.2 b fun q : b = S => z (by rw [q]; exact List.mem_cons_self)]
      exact y
variable {E : Value → Shared → Prop}
set_option maxHeartbeats 8000000 in
theorem makeSet {l : Addr} {items : Array Value} {ks : List Key} {Q : Value → Shared → Prop} (calm : A.handled = none) (at_l : s.heap.IsList l items) (are : KeysAre items.toList ks) (few : ks.length < 1000)
    (fin : ∀ (h2 : Heap) (tk : Nat), SetAt P w h2 s.heap.objs.size (once [] ks) → (∀ b o, s.heap.get? b = some o → h2.get? b = some o) → Q (.ref s.heap.objs.size) { s with heap := h2, toks := tk }) :
    wpAny (model P w) A (call (.type "set") [.ref l]) Q E s := by
  have count : ks.length = items.size := by
    have := Paired.length are
    rw [List.length_map, Array.length_toList] at this
    exact this
  obtain ⟨m1, m2, mro⟩ := PySem.F.called_set.mro
  have made := PySem.F.called_set.made
  have subT := PySem.F.called_set.sub
  have notT := PySem.F.called_set.notType
  have canC := PySem.F.called_set.canCreate
  have tyC := PySem.F.typeCall_set_1 (.ref l)
  refine wpAny_call (codeAny_of_tree ?_)
  show wpAny _ _ (callAny (.type "set") _) _ _ _
  refine wpAny_pure ⟨Code.quiet_builtin _ (by decide +kernel), codeAny_builtin PySem.F.entry_type_call ?_⟩
  rw [Around.under_plain (weight_type_call_type "set" [.ref l] []) rfl]
  repeat (any_goals (first | assumption | wp_step))
  refine codeAny_mono (code_set_new_1 (.ref l) (E := E) (Q₁ := fun v t => ∃ led : Bool, v = .ref s.heap.objs.size ∧ t = { s with heap := s.heap.push { cls := .type "set", dict := none, data := .set #[] 0 (.fresh 0 0 led) } }) fun led => ⟨led, rfl, rfl⟩) fun r s1 got => ?_
  match r, got with
  | .error _, got => exact got
  | .ok .next, got => exact got.elim
  | .ok .brk, got => exact got.elim
  | .ok .cont, got => exact got.elim
  | .ok (.ret v), ⟨led, ev, et⟩ =>
    subst ev et
    generalize eh : s.heap.push { cls := .type "set", dict := none, data := .set #[] 0 (.fresh 0 0 led) } = h1
    have at_S : h1.get? s.heap.objs.size = some { cls := .type "set", dict := none, data := .set #[] 0 (.fresh 0 0 led) } := by rw [← eh]; exact Heap.get?_push_size _ rfl
    have size1 : h1.objs.size = s.heap.objs.size + 1 := by rw [← eh]; exact Heap.size_push ..
    have old1 : ∀ b o, s.heap.get? b = some o → h1.get? b = some o := fun b o e => by rw [← eh]; exact Heap.get?_push_of_some _ e
    have isS : Shared.TypeIs { s with heap := h1 } (.ref s.heap.objs.size) "set" := ⟨_, at_S, rfl⟩
    have initL := PySem.F.called_set.init.lookup
    have initB := PySem.F.called_set.init.bind (.ref s.heap.objs.size)
    repeat (any_goals (first | assumption | wp_step))
    refine codeAny_mono (codeAny_call_builtin (R := wants (fun r t => r = .none ∧ ∃ h2 tk, t = { s with heap := h2, toks := tk } ∧ SetAt P w h2 s.heap.objs.size (once [] ks) ∧ ∀ b o, s.heap.get? b = some o → h2.get? b = some o) E)
      PySem.F.called_set.init.plain PySem.F.entry_set_init (check_set_init_1 isS ?_)) fun r t got => ?_
    · obtain ⟨⟨c, dd, dt, sl⟩, at_o, ec, nn, ed⟩ := id at_l
      simp only at ec ed
      subst ec ed
      have at_o1 := old1 _ _ at_o
      have n1 := PySem.F.sub_list_set
      have n2 := PySem.F.sub_list_frozenset
      have n3 : (Value.type "list" == Value.type "dict") = false := by decide
      have list1 : h1.IsList l items := ⟨_, at_o1, rfl, nn, rfl⟩
      have calm3 : A.in1.in1.in1.handled = none := by simp [calm]
      have lS : l < s.heap.objs.size := Heap.lt_size at_o
      unfold Builtin.«set.__init__» noKeywords Builtin.Frozenset.updateFrom
      generalize ePI : pyIter = PI
      wp_walk
      subst ePI
      refine wpAny_pyIter_list list1 ?_
      refine wpAny_bind (wpAny_runValue ?_)
      have nI : l ≠ h1.objs.size := Nat.ne_of_lt (by rw [size1]; exact Nat.lt_succ_of_lt lS)
      have outS : s.heap.objs.size ∉ [h1.objs.size, l] := by
        simp only [List.mem_cons, List.not_mem_nil, or_false, not_or]
        exact ⟨Nat.ne_of_lt (by rw [size1]; exact Nat.lt_succ_self _), Nat.ne_of_gt lS⟩
      refine fillLoop ((Walks.list calm3 _ l nI items).toS) s.heap.objs.size outS ks count (by omega) (fun i v e => keys_at are i v (by rw [Array.getElem?_toList]; exact e)) (items.size - 0) 0 _ (by omega) (Nat.zero_le _)
        ⟨⟨_, Heap.get?_push_size _ rfl, rfl, rfl⟩, (list1.push _)⟩ ?first ?last
      case first =>
        refine SetOf_congr ((setObjOf_fresh (knd := mixKind P w) led).setOf (Heap.get?_push_of_some _ at_S) (by unfold scanBound; omega)) (fun k => ?_) rfl
        simp [upTo, once]
      case last =>
        rintro ⟨h2, g2, d2, tk, os2⟩ mv set
        obtain rfl : g2 = s.gens := mv.gens
        obtain rfl : d2 = s.drawn := mv.drawn
        obtain rfl : os2 = s.os := mv.os
        show wpAny _ _ _ _ _ _
        refine wpAny_pure ?_
        show wpAny _ _ (ret Value.none) _ _ _
        have all : upTo ks items.size = once [] ks := by
          unfold upTo
          rw [← count, List.take_length]
        rw [all] at set
        refine wpAny_pure ⟨rfl, h2, tk, rfl, set, fun b o e => ?_⟩
        have lt := Heap.lt_size e
        refine mv.heap b o ?_ (Heap.get?_push_of_some _ (old1 b o e))
        simp only [List.mem_cons, List.not_mem_nil, or_false, not_or]
        exact ⟨Nat.ne_of_lt lt, Nat.ne_of_lt (by rw [size1]; exact Nat.lt_succ_of_lt lt)⟩
    · match r, got with
      | .error _, got => exact got
      | .ok .next, got => exact got.elim
      | .ok .brk, got => exact got.elim
      | .ok .cont, got => exact got.elim
      | .ok (.ret v), ⟨ev, h2, tk, et, set, old⟩ =>
        subst ev et
        repeat (any_goals (first | assumption | wp_step))
        exact fin _ _ set old
end
section
variable {X : Cx}
/-- the set of these keys at a -/
def SetM (P : Program) (w : World) (a : Addr) (m : List Key) : HO := SetK P w a (fun k => decide (k ∈ m)) m.length
theorem cr_setK (hc : X.calm = true) : CallR X (.type "set") (fun xs H Q => ∃ l ks, xs = [.ref l] ∧ SqL X.K H l (ks.map kV) ∧ ks.length < 1000 ∧ ∀ p, H p = none → Q (.ref p) (upd H p (SetM X.prog X.w p (once [] ks)))) := by
  rintro pins s σ H xs us Q I r ⟨l, ks, rfl, at_l, few, q⟩
  obtain ⟨u, rfl, ru⟩ := vals1 r
  cases (show u = Value.ref l from ru)
  obtain ⟨its, rv, pl, _⟩ := I.list at_l
  refine makeSet (P := X.prog) (w := X.w) (I.ok.hd hc) pl.isList rv few fun h2 tk set old => ?_
  exact ⟨.ref s.heap.objs.size, upd H s.heap.objs.size (SetM X.prog X.w s.heap.objs.size (once [] ks)), I.laid (t' := tk) old (Nat.le_refl _) (setK_new set), rfl, q _ (I.hok.fresh (Nat.le_refl _))⟩
theorem call_lenM : CallR X (.builtin "len") (fun xs H Q => ∃ a m, xs = [.ref a] ∧ H a = some (SetM X.prog X.w a m) ∧ m.length < 1000 ∧ Q (.int m.length) H) := by
  rintro pins s σ H xs us Q I r ⟨a, m, rfl, at_a, few, q⟩
  obtain ⟨u, rfl, ru⟩ := vals1 r
  cases (show u = Value.ref a from ru)
  obtain ⟨o, es, ep, t, ho, hex, hd, _, _, _, hf, hn⟩ := setK_get I at_a
  refine call_len_set ho hex hd hf (by rw [hn]; omega) ⟨.int m.length, H, I.tok _, ⟨_, by rw [hn]⟩, q⟩
end
end Vd

namespace Vd
open PySem PySem.Spec PyProof.Rows L2
/-! ### enumerate of a tuple -/
theorem meets_enumB {v : Value} {o : Obj} {H : Heap → Prop} (B : Begins v o H) :
    Meets (Builtin.«enumerate.__new__» ⟨[.type "enumerate", v], []⟩) (fun _ R s => H s.heap ∧
      R (.ok (.ret (.ref (s.heap.push o).objs.size))) { s with heap := (s.heap.push o).push { cls := .type "enumerate", data := .fields #[.none, .bool false, .ref s.heap.objs.size, rawInt 0, .none, .none] } }) :=
  .of_wp fun prog w A R s h => by
    obtain ⟨hp, g, d, tk, os⟩ := s; obtain ⟨h1, h⟩ := h
    have hsub := sub_enumerate
    have q1 : ∀ {A' : Around} {E : Value → Shared → Prop} {Q : Value → Shared → Prop}, Q (.ref hp.objs.size) ⟨hp.push o, g, d, tk, os⟩ → wpAny (model prog w) A' (pyIter v) Q E ⟨hp, g, d, tk, os⟩ :=
      fun q => B.iter prog w _ _ ⟨hp, g, d, tk, os⟩ _ h1 q
    wp_walk using q1
    refine wpAny_stack_any fun st => wpAny_pure ?_
    split
    · rename_i c _ _ _ _ _
      cases (c == Value.type "enumerate")
      · wp_walk using q1
        exact ⟨_, rfl, h⟩
      · wp_walk using q1
        exact ⟨_, rfl, h⟩
    · wp_walk using q1
      exact ⟨_, rfl, h⟩
section
variable {prog : Program} {w : World} {A : Around} {E : Value → Shared → Prop} {s : Shared}
theorem call_enumB {v : Value} {o : Obj} {H : Heap → Prop} {Q : Value → Shared → Prop} (B : Begins v o H) (h1 : H s.heap)
    (h : ∀ h', IsEnum h' (s.heap.objs.size + 1) s.heap.objs.size 0 .none → h'.get? s.heap.objs.size = some o → h'.objs.size = s.heap.objs.size + 2 →
      (∀ b o, s.heap.get? b = some o → h'.get? b = some o) → Q (.ref (s.heap.objs.size + 1)) { s with heap := h' }) :
    wpAny (model prog w) A (call (.type "enumerate") [v]) Q E s := by
  refine callType_new F.called_enumerate (by decide) (F.typeCall_enumerate_1 _) (F.newCall_enumerate_1 _) (fun obj => F.args_object_init_2 obj _) F.entry_enumerate_new
    (meets_enumB B) ⟨h1, ?_⟩
  have hz : (s.heap.push o).objs.size = s.heap.objs.size + 1 := Heap.size_push ..
  show _ ∧ _
  rw [hz]
  have he : IsEnum ((s.heap.push o).push { cls := .type "enumerate", data := .fields #[.none, .bool false, .ref s.heap.objs.size, rawInt 0, .none, .none] }) (s.heap.objs.size + 1) s.heap.objs.size 0 .none := by
    have := Heap.get?_push_size (s.heap.push o) (o := { cls := .type "enumerate", data := .fields #[.none, .bool false, .ref s.heap.objs.size, rawInt 0, .none, .none] }) rfl
    rw [hz] at this; exact this
  refine ⟨⟨_, he, rfl⟩, h _ he (Heap.get?_push_of_some _ (Heap.get?_push_size _ B.free)) (by rw [Heap.size_push, hz]) fun b o x => Heap.get?_push_of_some _ (Heap.get?_push_of_some _ x)⟩
end
/-- the tuple at a as it stands at each turn, each item in a new pair -/
def IteT (K : PySem.W.Frag) (a : Addr) : It :=
  ⟨fun i H => ∃ (xs : List V) (x : V), SqT K H a xs ∧ xs[i]? = some x, fun i H v H' => ∃ T x, v = .ref T ∧ H T = none ∧ H' = upd H T (.tup [.int (i : Nat), x]) ∧ ∀ xs, SqT K H a xs → xs[i]? = some x, fun i H => ∃ xs : List V, SqT K H a xs ∧ xs.length ≤ i⟩
theorem turn_enumT {P : Program} {w : World} {K : PySem.W.Frag} {elts : List Expr} {kk : Nat} {tpos : Pos} (a e it : Addr) :
    Turn P w K (.Tuple elts kk tpos) (IteT K a) [e, it] e (fun i h => (∃ old, IsEnum h e it ((i : Nat) : Int) old) ∧ h.IsTupleIter it a i ∧ e ≠ it ∧ a ≠ it ∧ a ≠ e) where
  mem := by simp
  obj := fun i h st b hb => by
    obtain ⟨⟨old, he⟩, ⟨o, ho, hc, hd⟩, _⟩ := st
    have e' : b = e ∨ b = it := by simpa using hb
    rcases e' with z | z
    · rw [z]; exact ⟨_, he, fun v q => nomatch q⟩
    · rw [z]; exact ⟨o, ho, fun v q => by rw [hd] at q; cases q⟩
  keep := fun i h h' st k => let ⟨⟨old, he⟩, hi, hne, h4, h5⟩ := st; ⟨⟨old, k e (by simp) _ he⟩, hi.at fun o q => k it (by simp) o q, hne, h4, h5⟩
  item := by
    intro X hP hw hK hc i pins s σ H E I hf st hg
    subst hP hw hK
    obtain ⟨⟨old, he⟩, hit, hne, h4, h5⟩ := st
    obtain ⟨xs, x, hq, hx⟩ := hg
    obtain ⟨its, rv, p, hz⟩ := I.tuple hq
    obtain ⟨u, hu, ru⟩ := rv.get hx
    have hel : e < s.heap.objs.size := Heap.lt_size he
    have hil : it < s.heap.objs.size := by obtain ⟨_, q, _⟩ := hit; exact Heap.lt_size q
    have hi : i < its.toArray.size := by
      have := (List.getElem?_eq_some_iff.mp hu).1
      simpa using this
    refine wpAny_pyNext_enum_itemD (Draws.tuple (show X.A.in1.handled = none from I.ok.hd hc) it a h4 its.toArray) he ⟨hit, p⟩ hi hne (by simp [hne, Ne.symm h5]) fun x' h' tk hx' ho hit' hT hsz hk => ?_
    have ex : x' = u := by
      have : its.toArray[i]? = some u := by simpa using hu
      rw [this] at hx'
      injection hx' with z
      exact z.symm
    subst ex
    refine ⟨_, rfl, wpAny_letOwnedTupleGo_enum (s := { s with heap := h', toks := tk + 1 }) ho fun h'' he' sb => ?_⟩
    have hT2 : h''.get? s.heap.objs.size = some { cls := .type "tuple", data := .seq #[.int i tk, x'] } := (sb.2 _ (Nat.ne_of_gt hel)).trans hT
    have new : ObjOk X.prog X.w (upd H s.heap.objs.size (.tup [.int (i : Nat), x])) h'' s.heap.objs.size (.tup [.int (i : Nat), x]) :=
      ⟨by show 2 ≤ sizeLine; decide, [.int i tk, x'], .cons ⟨_, rfl⟩ (.cons ru .nil), ⟨_, hT2, rfl, _, rfl⟩⟩
    have I1 : Inv X pins σ (upd H s.heap.objs.size (.tup [.int (i : Nat), x])) { s with heap := h'', toks := tk + 1 } :=
      I.turnedNew (ch := [e, it]) (fun b ob hb q => (sb.2 b (fun z => hb (by simp [z]))).trans (hk b ob (fun z => hb (by simp [z])) (fun z => hb (by simp [z])) q)) hf (Nat.le_refl _) new
    refine ⟨.ref s.heap.objs.size, _, I1, rfl, ⟨_, x, rfl, I.hok.fresh (Nat.le_refl _), rfl, fun ys hy => by rw [I.tuple_inj hy hq]; exact hx⟩, ⟨⟨x', ?_⟩, hit'.1.at fun o q => (sb.2 it (Ne.symm hne)).trans q, hne, h4, h5⟩, fun b hb => ?_⟩
    · have e1 : ((i + 1 : Nat) : Int) = (i : Int) + 1 := by omega
      rw [e1]; exact he'
    · have hb' : b < s.heap.objs.size := by
        have e' : b = e ∨ b = it := by simpa using hb
        rcases e' with z | z
        · rw [z]; exact hel
        · rw [z]; exact hil
      rw [upd_ne (Nat.ne_of_lt hb')]
      exact (hf b hb).1
  done := by
    intro X hP hw hK hc i pins s σ H E I hf st hg
    subst hP hw hK
    obtain ⟨⟨old, he⟩, hit, hne, h4, h5⟩ := st
    obtain ⟨xs, hq, hx⟩ := hg
    obtain ⟨its, rv, p, hz⟩ := I.tuple hq
    obtain ⟨f0, f1, f2, f3, f4, f5⟩ := hf it (by simp)
    have hl := rv.length
    have hn : its.toArray[i]? = none := by simp; omega
    have hT : s.TypeIs (.ref e) "enumerate" := ⟨_, he, rfl⟩
    unfold pyNext
    refine wpAny_bind (wpAny_attempt (wpAny_callSpecial?_slot (name := Str.ofString "__next__") hT F.slot_enumerate_next
      (wpAny_call_entry F.slot_enumerate_next hT F.entry_enumerate_next ?_ (F.args_enumerate_next_1 _))))
    show wpAny _ _ (field (.ref e) 2 >>= _) _ _ _
    refine wpAny_bind (wpAny_field he rfl (x := .ref it) rfl ?_)
    refine wpAny_bind (RZ.nextOf_tuple_end (I.ok.hd hc) hit p hn fun h' x eb hx' => ?_)
    obtain ⟨o, ho, hc'⟩ := hx'
    refine wpAny_bind (wpAny_isInstance (T := "StopIteration") (b := true) ⟨o, ho, hc'⟩ isSubtype_stop ?_)
    exact wpAny_pure ⟨rfl, I.turned (t' := s.toks) (fun b o hb q => eb b o hb q) f0 f1 f3 f4 f5⟩
  self := fun A i s Q E st h => let ⟨⟨_, he⟩, _⟩ := st; wpAny_pyIter_enum he h
def iEnumT (K : PySem.W.Frag) (ta : TA) : TI := fun σ H R => ta σ H fun vs H1 => ∃ a xs, vs = [.ref a] ∧ SqT K H1 a xs ∧ R (IteT K a) H1
theorem pi_enumT {X : Cx} {e : Expr} {ta : TA} {p pos tpos : Pos} {elts : List Expr} {kk : Nat} (hg : Gl X "enumerate") (hm : X.mg "enumerate" = none) (ha : PA X [e] ta) (hs : starEach [e] X.env = [(false, eval e X.env)] := by rfl) :
    PI X (.Tuple elts kk tpos) (.Call (.Name "enumerate" p) [e] [] pos) (iEnumT X.K ta) := by
  refine ⟨fun pins s σ H R I h => ?_⟩
  refine Call_ (ld_blt I hg hm boot_enumerate (PyProof.Rows.callWith_type1 (thn (ha.run pos pins s σ H _ I h) fun us s1 ⟨vs, H1, I1, r1, q1⟩ => ?_) hs rfl))
  obtain ⟨a, xs, ex, hq, q⟩ := q1
  subst ex
  cases r1 with
  | cons r rr =>
    cases rr
    cases r
    obtain ⟨its, rv, p', hz⟩ := I1.tuple hq
    have hal : a < s1.heap.objs.size := by obtain ⟨_, q, _⟩ := id p'; exact Heap.lt_size q
    refine call_enumB (begins_tuple a its.toArray) p' fun h' he hit hsz hk => wpAny_pyIter_enum he ?_
    have I2 : Inv X pins σ H1 { s1 with heap := h' } := I1.kept (t' := s1.toks) hk
    refine ⟨s1.heap.objs.size + 1, [s1.heap.objs.size + 1, s1.heap.objs.size], _, _, H1, rfl, I2, turn_enumT a (s1.heap.objs.size + 1) s1.heap.objs.size, ⟨⟨.none, he⟩, ⟨_, hit, rfl, rfl⟩, Nat.succ_ne_self _, Nat.ne_of_lt hal, Nat.ne_of_lt (Nat.lt_succ_of_lt hal)⟩, fun b hb => ?_, q⟩
    have e' : b = s1.heap.objs.size + 1 ∨ b = s1.heap.objs.size := by simpa using hb
    have hle : s1.heap.objs.size ≤ b := by
      rcases e' with z | z
      · rw [z]; exact Nat.le_add_right _ _
      · rw [z]; exact Nat.le_refl _
    exact I1.fpOk hle (I1.hok.fresh hle)
theorem walk_enumT {K : PySem.W.Frag} {a : Addr} {xs : List V} : Walk (IteT K a) xs.length (fun H => SqT K H a xs) (YPair (fun i => some (.int (i : Nat))) (fun i => xs[i]?)) := by
  refine ⟨fun i _ hi q => ⟨xs, xs[i], q, by simp [hi]⟩, fun _ q => ⟨xs, q, Nat.le_refl _⟩, fun i H v H' _ q y => ?_⟩
  obtain ⟨T, x, h1, h2, h3, h4⟩ := y
  exact ⟨T, .int (i : Nat), x, h1, h2, h3, rfl, h4 xs q⟩
end Vd

namespace K24
open PySem PySem.Spec PyProof.Rows L2 Vd Evl
/-! ### rows of texts -/
theorem eqv_strs : ∀ a b : List Str, PyData.eqv (.list (a.map PyData.str)) (.list (b.map PyData.str)) = decide (a = b)
  | [], [] => by simp [PyData.eqv, PyData.eqvAll]
  | [], y :: b => by simp [PyData.eqv, PyData.eqvAll]
  | x :: a, [] => by simp [PyData.eqv, PyData.eqvAll]
  | x :: a, y :: b => by
    have ih := eqv_strs a b
    simp only [PyData.eqv] at ih
    simp only [List.map_cons, PyData.eqv, PyData.eqvAll, ih]
    by_cases e : x = y
    · subst e
      simp
    · simp [e]
theorem strs_shaped {l : List Str} (h : ∀ x ∈ l, PyData.strOk x = true) : SeqAt.shaped (.list (l.map PyData.str)) = true := by
  have lay : ∀ l : List Str, (∀ x ∈ l, PyData.strOk x = true) → PyData.canLayAll0 (l.map PyData.str) = true ∧ PyData.depthAll (l.map PyData.str) = 0 := by
    intro l
    induction l with
    | nil => exact fun _ => ⟨by simp [PyData.canLayAll0], by simp [PyData.depthAll]⟩
    | cons c l ih =>
      intro all
      obtain ⟨i1, i2⟩ := ih fun d m => all d (.tail _ m)
      refine ⟨?_, ?_⟩
      · simp only [List.map_cons, PyData.canLayAll0, PyData.canLay0, all c (.head _), i1, Bool.and_self]
      · simp only [List.map_cons, PyData.depthAll, i2, PyData.depth]
        decide
  obtain ⟨l1, l2⟩ := lay l h
  unfold SeqAt.shaped
  have e1 : (PyData.list (l.map PyData.str)).canLay0 = true := by simpa [PyData.canLay0] using l1
  have e2 : (PyData.list (l.map PyData.str)).depth ≤ 64 := by
    show PyData.depthAll _ + 1 ≤ 64
    rw [l2]
    decide
  rw [e1, decide_eq_true e2]
  rfl
theorem strs_dats {H : Hp} {K : PySem.W.Frag} : ∀ l : List Str, DatAll K H (l.map V.str) (l.map PyData.str)
  | [] => .nil
  | x :: l => .cons (.str _) (strs_dats l)
theorem strs_inj : ∀ {a b : List Str}, a.map V.str = b.map V.str → a = b
  | [], [], _ => rfl
  | [], _ :: _, e => by cases e
  | _ :: _, [], e => by cases e
  | x :: a, y :: b, e => by
    simp only [List.map_cons, List.cons.injEq, V.str.injEq] at e
    rw [e.1, strs_inj e.2]
def leS (x y : Str) : Prop := ltCps y.cps.toList x.cps.toList = false
theorem ltCps_lt : ∀ a b : List Nat, ltCps a b = decide (a < b)
  | [], [] => by decide
  | [], y :: b => by simp [ltCps]
  | x :: a, [] => by simp [ltCps]
  | x :: a, y :: b => by
    rw [ltCps, ltCps_lt a b]
    by_cases h : x < y
    · simp [h, List.cons_lt_cons_iff]
    · by_cases e : x = y
      · subst e
        simp [List.cons_lt_cons_iff]
      · simp [h, e, List.cons_lt_cons_iff]
theorem leS_anti {x y : Str} (a : leS x y) (b : leS y x) : x = y := by
  unfold leS at a b
  rw [ltCps_lt] at a b
  have e : x.cps.toList = y.cps.toList := List.le_antisymm (List.not_lt.mp (of_decide_eq_false a)) (List.not_lt.mp (of_decide_eq_false b))
  cases x
  cases y
  simp at e
  rw [e]
theorem leS_trans {x y z : Str} (a : leS x y) (b : leS y z) : leS x z := by
  unfold leS at a b ⊢
  rw [ltCps_lt] at a b ⊢
  exact decide_eq_false (List.not_lt.mpr (List.le_trans (List.not_lt.mp (of_decide_eq_false a)) (List.not_lt.mp (of_decide_eq_false b))))
theorem rising_pw : ∀ (l : List Str) (p : Str), risingS p l = true → (∀ x ∈ l, leS p x) ∧ l.Pairwise leS
  | [], p, _ => ⟨fun _ m => (nomatch m), .nil⟩
  | x :: l, p, h => by
    simp only [risingS, Bool.and_eq_true, Bool.not_eq_true'] at h
    obtain ⟨i1, i2⟩ := rising_pw l x h.2
    refine ⟨fun y m => ?_, .cons i1 i2⟩
    cases m with
    | head => exact h.1
    | tail _ m => exact leS_trans h.1 (i1 y m)
theorem sorted_pw {l : List Str} (h : sortedS l = true) : l.Pairwise leS := by
  cases l with
  | nil => exact .nil
  | cons x l =>
    obtain ⟨i1, i2⟩ := rising_pw l x h
    exact .cons i1 i2
theorem pw_eq : ∀ {a b : List Str}, a.Pairwise leS → b.Pairwise leS → a.Perm b → a = b
  | [], b, _, _, p => (List.nil_perm.mp p).symm ▸ rfl
  | x :: a, [], _, _, p => absurd (List.perm_nil.mp p) (by simp)
  | x :: a, y :: b, ha, hb, p => by
    have e : x = y := by
      have mx : x ∈ y :: b := p.mem_iff.mp (.head _)
      have my : y ∈ x :: a := p.mem_iff.mpr (.head _)
      rcases List.mem_cons.mp mx with e | mx
      · exact e
      rcases List.mem_cons.mp my with e | my
      · exact e.symm
      exact leS_anti ((List.pairwise_cons.mp ha).1 y my) ((List.pairwise_cons.mp hb).1 x mx)
    subst e
    rw [pw_eq (List.pairwise_cons.mp ha).2 (List.pairwise_cons.mp hb).2 (List.Perm.cons_inv p)]
theorem ahead_le {x y : Str} (h : ahead x y = true) : leS x y := by
  unfold leS
  rw [ltCps_lt]
  refine decide_eq_false fun z => ?_
  exact List.lt_irrefl _ (List.lt_trans z (of_decide_eq_true h))
theorem sort_eq {ys s n : List Str} (p : ys.Perm s) (h : sortedS ys = true) (asc : n.Pairwise fun x y => ahead x y = true) : ys = n ↔ s.Perm n :=
  ⟨fun e => e ▸ p.symm, fun q => pw_eq (sorted_pw h) (asc.imp ahead_le) (p.trans q)⟩
/-! ### trees -/
def namesH (h : Hall) : List Str := h.ms.map (·.1)
def startsH (h : Hall) : List Str := h.bs.map (·.1)
def endsH (h : Hall) : List Str := h.bs.map (·.2.1)
def othersH (h : Hall) : List Str := (namesH h).filter fun x => !decide (x = h.fl)
def fullH (h : Hall) : Prop := ∀ m ∈ h.bs, m.2.2.1 = m.2.2.2
def treeH (h : Hall) : Prop := fullH h ∧ (startsH h).Perm (othersH h)
/-- what a hall that is looked at has -/
structure Seen (h : Hall) : Prop where
  asc : (namesH h).Pairwise fun x y => ahead x y = true
  names : ∀ x ∈ namesH h, x = h.fl ∨ x ∈ eight
  fl : h.fl = "fill" ∨ h.fl = "m"
  flin : h.fl ∈ namesH h
  ends : ∀ m ∈ h.bs, m.1 ∈ namesH h ∧ m.2.1 ∈ namesH h
  few : h.ms.length ≤ 9
  fewB : h.bs.length ≤ 10
  joined : fullH h → ∀ x ∈ namesH h, Reach h.bs h.fl x
  ms : ∀ m ∈ h.ms, m.2.2.length ≤ 2 ∧ ∀ x ∈ m.2.2, PurseOk 4 x
theorem Seen.nodup {h : Hall} (s : Seen h) : (namesH h).Nodup := s.asc.imp fun {x y} a e => by
  rw [e] at a
  exact List.lt_irrefl _ (of_decide_eq_true a)
theorem Seen.okS {h : Hall} (s : Seen h) : ∀ x ∈ namesH h, PyData.strOk x = true ∧ x.length ≤ 12 := fun x m => by
  rcases s.names x m with e | e
  · rcases s.fl with f | f <;> rw [e, f] <;> decide +kernel
  · simp only [eight, List.mem_cons, List.not_mem_nil, or_false] at e
    rcases e with e | e | e | e | e | e | e | e <;> subst e <;> decide +kernel
def fromL (bs : List Belt) (x : Str) (i : Nat) : List Nat := (List.range i).filter fun j => decide ((bs[j]?).map (·.1) = some x)
def firstL (h : Hall) (x : Str) : Option Nat := (fromL h.bs x h.bs.length).head?
theorem fromL_mem {bs : List Belt} {x : Str} {i j : Nat} : j ∈ fromL bs x i ↔ j < i ∧ ∃ m, bs[j]? = some m ∧ m.1 = x := by
  unfold fromL
  rw [List.mem_filter, List.mem_range, decide_eq_true_eq, Option.map_eq_some_iff]
theorem fromL_succ {bs : List Belt} {x : Str} {i : Nat} {m : Belt} (e : bs[i]? = some m) : fromL bs x (i + 1) = if m.1 = x then fromL bs x i ++ [i] else fromL bs x i := by
  unfold fromL
  rw [List.range_succ, List.filter_append]
  by_cases c : m.1 = x
  · rw [if_pos c]
    simp [e, c]
  · rw [if_neg c]
    simp [e, c]
theorem fromL_len {bs : List Belt} {x : Str} {i : Nat} : (fromL bs x i).length ≤ i := by
  unfold fromL
  exact Nat.le_trans (List.length_filter_le _ _) (by simp)
/-- a way home -/
inductive Home (h : Hall) : Str → List Nat → Prop
  | done : Home h h.fl []
  | step {x : Str} {j : Nat} {m : Belt} {p : List Nat} : x ≠ h.fl → firstL h x = some j → h.bs[j]? = some m → m.1 = x → Home h m.2.1 p → Home h x (j :: p)
def startAt (h : Hall) (j : Nat) : Str := match h.bs[j]? with
  | some m => m.1
  | none => ("" : Str)
def wayH (h : Hall) (p : List Nat) : List Str := p.map (startAt h)
theorem startAt_eq {h : Hall} {j : Nat} {m : Belt} (e : h.bs[j]? = some m) : startAt h j = m.1 := by
  unfold startAt
  rw [e]
theorem Home.one {h : Hall} {x : Str} {p : List Nat} (a : Home h x p) : ∀ {q : List Nat}, Home h x q → p = q := by
  induction a with
  | done =>
    intro q b
    cases b with
    | done => rfl
    | step n _ _ _ _ => exact absurd rfl n
  | @step x j m p n f e s _ ih =>
    intro q b
    cases b with
    | done => exact absurd rfl n
    | @step _ j' m' q _ f' e' _ r =>
      have ej : j = j' := by
        rw [f] at f'
        injection f'
      subst ej
      have em : m = m' := by
        rw [e] at e'
        injection e'
      subst em
      rw [ih r]
theorem Home.mid {h : Hall} {x : Str} {p : List Nat} (a : Home h x p) : ∀ y ∈ wayH h p, ∃ q, Home h y q ∧ q.length ≤ p.length := by
  induction a with
  | done => exact fun y m => nomatch m
  | @step x j m p n f e s r ih =>
    intro y my
    rcases List.mem_cons.mp my with z | z
    · rw [startAt_eq e, s] at z
      subst z
      exact ⟨_, .step n f e s r, Nat.le_refl _⟩
    · obtain ⟨q, hq, lq⟩ := ih y z
      exact ⟨q, hq, Nat.le_trans lq (Nat.le_succ _)⟩
theorem Home.nodup {h : Hall} {x : Str} {p : List Nat} (a : Home h x p) : (wayH h p).Nodup := by
  induction a with
  | done => exact List.nodup_nil
  | @step x j m p n f e s r ih =>
    refine List.nodup_cons.mpr ⟨fun z => ?_, ih⟩
    rw [startAt_eq e, s] at z
    obtain ⟨q, hq, lq⟩ := r.mid x z
    have := Home.one (.step n f e s r) hq
    rw [← this] at lq
    exact absurd lq (by simp)
theorem Home.names {h : Hall} (s : Seen h) {x : Str} {p : List Nat} (a : Home h x p) : ∀ y ∈ wayH h p, y ∈ namesH h := by
  induction a with
  | done => exact fun y m => nomatch m
  | @step x j m p n f e _ r ih =>
    intro y my
    rcases List.mem_cons.mp my with z | z
    · rw [z, startAt_eq e]
      exact (s.ends m (List.mem_of_getElem? e)).1
    · exact ih y z
theorem nodup_short {α : Type} [DecidableEq α] : ∀ {l m : List α}, l.Nodup → (∀ x ∈ l, x ∈ m) → l.length ≤ m.length
  | [], m, _, _ => Nat.zero_le _
  | x :: l, m, n, s => by
    have hx : x ∈ m := s x (.head _)
    have n' := List.nodup_cons.mp n
    have := nodup_short (l := l) (m := m.erase x) n'.2 fun y my => (List.mem_erase_of_ne fun z : y = x => n'.1 (z ▸ my)).mpr (s y (.tail _ my))
    rw [List.length_erase_of_mem hx] at this
    have pos : 0 < m.length := List.length_pos_of_mem hx
    show l.length + 1 ≤ m.length
    omega
theorem Home.short {h : Hall} (s : Seen h) {x : Str} {p : List Nat} (a : Home h x p) : p.length ≤ 9 := by
  have := nodup_short a.nodup (a.names s)
  have e : (wayH h p).length = p.length := List.length_map ..
  have e2 : (namesH h).length = h.ms.length := List.length_map ..
  have := s.few
  omega
theorem Home.small {h : Hall} (s : Seen h) {x : Str} {p : List Nat} (a : Home h x p) : ∀ j ∈ p, ∃ m, h.bs[j]? = some m := by
  induction a with
  | done => exact fun y m => nomatch m
  | @step x j m p n f e _ r ih =>
    intro y my
    rcases List.mem_cons.mp my with z | z
    · exact ⟨m, z ▸ e⟩
    · exact ih y z
theorem start_other {h : Hall} (t : treeH h) {m : Belt} (mm : m ∈ h.bs) : m.1 ≠ h.fl := fun e => by
  have : m.1 ∈ othersH h := t.2.mem_iff.mp (List.mem_map.mpr ⟨m, mm, rfl⟩)
  unfold othersH at this
  rw [List.mem_filter] at this
  simp [e] at this
theorem starts_nodup {h : Hall} (s : Seen h) (t : treeH h) : (startsH h).Nodup := t.2.nodup_iff.mpr (s.nodup.filter _)
theorem first_of {h : Hall} (s : Seen h) (t : treeH h) {j : Nat} {m : Belt} (e : h.bs[j]? = some m) : firstL h m.1 = some j := by
  have lt : j < h.bs.length := (List.getElem?_eq_some_iff.mp e).1
  have mj : j ∈ fromL h.bs m.1 h.bs.length := fromL_mem.mpr ⟨lt, m, e, rfl⟩
  unfold firstL
  cases c : fromL h.bs m.1 h.bs.length with
  | nil =>
    rw [c] at mj
    cases mj
  | cons k l =>
    have mk : k ∈ fromL h.bs m.1 h.bs.length := by
      rw [c]
      exact .head _
    obtain ⟨lk, m', e', s'⟩ := fromL_mem.mp mk
    have nd := starts_nodup s t
    have g1 : (startsH h)[j]? = some m.1 := by
      unfold startsH
      rw [List.getElem?_map, e]
      rfl
    have g2 : (startsH h)[k]? = some m.1 := by
      unfold startsH
      rw [List.getElem?_map, e', ← s']
      rfl
    have lj : j < (startsH h).length := by
      unfold startsH
      rw [List.length_map]
      exact lt
    have := (List.getElem?_inj lj nd).mp (g1.trans g2.symm)
    rw [this]
    rfl
theorem home_all {h : Hall} (s : Seen h) (t : treeH h) : ∀ x ∈ namesH h, ∃ p, Home h x p := by
  have all : ∀ x, Reach h.bs h.fl x → ∃ p, Home h x p := fun x r => by
    induction r with
    | here => exact ⟨[], .done⟩
    | @ahead y m _ mm e ih =>
      obtain ⟨p, hp⟩ := ih
      obtain ⟨j, ej⟩ := List.mem_iff_getElem?.mp mm
      have f := first_of s t ej
      cases hp with
      | done => exact absurd e (start_other t mm)
      | @step _ j' m' q n f' e' _ r' =>
        rw [← e, f] at f'
        injection f' with z
        subst z
        rw [ej] at e'
        injection e' with z
        subst z
        exact ⟨q, r'⟩
    | @back y m _ mm e ih =>
      obtain ⟨p, hp⟩ := ih
      obtain ⟨j, ej⟩ := List.mem_iff_getElem?.mp mm
      exact ⟨j :: p, .step (start_other t mm) (first_of s t ej) ej rfl (e ▸ hp)⟩
  exact fun x m => all x (s.joined t.1 x m)
theorem first_fl {h : Hall} (t : treeH h) : fromL h.bs h.fl h.bs.length = [] := by
  cases c : fromL h.bs h.fl h.bs.length with
  | nil => rfl
  | cons k l =>
    have mk : k ∈ fromL h.bs h.fl h.bs.length := by
      rw [c]
      exact .head _
    obtain ⟨lk, m', e', s'⟩ := fromL_mem.mp mk
    exact absurd s' (start_other t (List.mem_of_getElem? e'))
end K24

namespace K24
open PySem PySem.Spec PyProof.Rows L2 Vd Evl
/-! ### a hall in a heap -/
structure HallIn (K : PySem.W.Frag) (H : Hp) (r : Addr) (h : Hall) (pm pb : Addr) (mv bv : List V) : Prop where
  r : SqT K H r [.ref pm, .ref pb, .str h.fl]
  m : SqT K H pm mv
  md : DatAll K H mv (h.ms.map machD)
  bl : SqT K H pb bv
  bd : DatAll K H bv (h.bs.map beltD)
section
variable {K : PySem.W.Frag} {b : Addr} {G G' : Hp} {r pm pb : Addr} {h : Hall} {mv bv : List V} {most : Int}
theorem HallIn.of (x : Dat K G (.ref r) (hallD h)) : ∃ pm pb mv bv, HallIn K G r h pm pb mv bv := by
  cases x with
  | @tup _ xs _ sq all =>
    cases all with
    | cons h1 r1 =>
      cases r1 with
      | cons h2 r2 =>
        cases r2 with
        | cons h3 r3 =>
          cases r3
          cases h1 with
          | @tup pm mv _ s1 a1 =>
            cases h2 with
            | @tup pb bv _ s2 a2 =>
              cases h3
              exact ⟨pm, pb, mv, bv, sq, s1, a1, s2, a2⟩
theorem HallIn.up (s : Same G G') (x : HallIn K G r h pm pb mv bv) : HallIn K G' r h pm pb mv bv :=
  ⟨sqt_up s x.r, sqt_up s x.m, DatAll.up s x.md, sqt_up s x.bl, DatAll.up s x.bd⟩
theorem HallIn.mlen (x : HallIn K G r h pm pb mv bv) : mv.length = h.ms.length := by rw [dats_len x.md, List.length_map]
theorem HallIn.blen (x : HallIn K G r h pm pb mv bv) : bv.length = h.bs.length := by rw [dats_len x.bd, List.length_map]
theorem same_set {H G : Hp} {p : Addr} {o : HO} (s : Same H G) (n : H p = none) : Same H (upd G p o) := fun b x e => by
  rw [upd_ne (ne_of_none e n)]
  exact s _ _ e
theorem belt_at {H : Hp} : ∀ {bv : List V} {bs : List Belt} (j : Nat) (v : V), DatAll K H bv (bs.map beltD) → bv[j]? = some v → ∃ (m : Belt) (t : Addr), bs[j]? = some m ∧ v = .ref t ∧ SqT K H t [.str m.1, .str m.2.1, .int m.2.2.1, .int m.2.2.2]
  | [], bs, j, v, _, e => by simp at e
  | u :: bv, [], j, v, h, e => by cases h
  | u :: bv, m :: bs, 0, v, h, e => by
    cases h with
    | cons a r =>
      have e' : u = v := by simpa using e
      subst e'
      cases a with
      | @tup t xs _ sq all =>
        cases all with
        | cons h1 r1 =>
          cases h1
          cases r1 with
          | cons h2 r2 =>
            cases h2
            cases r2 with
            | cons h3 r3 =>
              cases h3
              cases r3 with
              | cons h4 r4 =>
                cases h4
                cases r4
                exact ⟨m, t, rfl, rfl, sq⟩
  | u :: bv, m :: bs, j + 1, v, h, e => by
    cases h with
    | cons a r => exact belt_at j v r (by simpa using e)
theorem mach_at {H : Hp} : ∀ {mv : List V} {ms : List Mach} (j : Nat) (v : V), DatAll K H mv (ms.map machD) → mv[j]? = some v → ∃ (m : Mach) (t p : Addr) (pv : List V), ms[j]? = some m ∧ v = .ref t ∧ SqT K H t [.str m.1, .int m.2.1, .ref p] ∧ SqT K H p pv ∧ DatAll K H pv (m.2.2.map pairD)
  | [], ms, j, v, _, e => by simp at e
  | u :: mv, [], j, v, h, e => by cases h
  | u :: mv, m :: ms, 0, v, h, e => by
    cases h with
    | cons a r =>
      have e' : u = v := by simpa using e
      subst e'
      cases a with
      | @tup t xs _ sq all =>
        cases all with
        | cons h1 r1 =>
          cases h1
          cases r1 with
          | cons h2 r2 =>
            cases h2
            cases r2 with
            | cons h3 r3 =>
              cases r3
              cases h3 with
              | @tup p pv _ s2 a2 => exact ⟨m, t, p, pv, rfl, rfl, sq, s2, a2⟩
  | u :: mv, m :: ms, j + 1, v, h, e => by
    cases h with
    | cons a r => exact mach_at j v r (by simpa using e)
theorem pair_at {H : Hp} : ∀ {pv : List V} {ps : List (Int × Int)} (j : Nat) (v : V), DatAll K H pv (ps.map pairD) → pv[j]? = some v → ∃ (m : Int × Int) (t : Addr), ps[j]? = some m ∧ v = .ref t ∧ SqT K H t [.int m.1, .int m.2]
  | [], ms, j, v, _, e => by simp at e
  | u :: mv, [], j, v, h, e => by cases h
  | u :: mv, m :: ms, 0, v, h, e => by
    cases h with
    | cons a r =>
      have e' : u = v := by simpa using e
      subst e'
      cases a with
      | @tup t xs _ sq all =>
        cases all with
        | cons h1 r1 =>
          cases h1
          cases r1 with
          | cons h2 r2 =>
            cases h2
            cases r2
            exact ⟨m, t, rfl, rfl, sq⟩
  | u :: mv, m :: ms, j + 1, v, h, e => by
    cases h with
    | cons a r => exact pair_at j v r (by simpa using e)
theorem inV_strs (y : Str) : ∀ l : List Str, inV (.str y) (l.map V.str) = decide (y ∈ l)
  | [] => rfl
  | z :: l => by
    show (eqV (.str z) (.str y) || inV (.str y) (l.map V.str)) = _
    rw [inV_strs y l]
    by_cases h : z = y
    · subst h
      simp [eqV]
    · have : ¬ y = z := fun e => h e.symm
      simp [eqV, h, this]
theorem flat_strs (l : List Str) : (l.map V.str).all flatV = true := by
  rw [List.all_eq_true]
  intro v m
  obtain ⟨x, _, rfl⟩ := List.mem_map.mp m
  rfl
end
section
variable {P : Program} {w : World} {K : PySem.W.Frag} {mg : Str → Option Value} {base : Heap}
/-! ### the names -/
abbrev sLNames : Stmt := topS 23
theorem scLNames : FnScope ["hall", "machine"] ["hall"] (defScope sLNames) := ⟨rfl, rfl, rfl, by decide +kernel, rfl, by decide +kernel, by decide +kernel⟩
def spLNames (K : PySem.W.Frag) : Sp := fun vs H Q _ => ∃ (r pm pb : Addr) (mv bv : List V) (h : Hall), vs = [.ref r] ∧ HallIn K H r h pm pb mv bv ∧ h.ms.length ≤ 100 ∧
  ∀ H' q, Same H H' → H q = none → H' q = some (.lst ((namesH h).map V.str)) → Q (.ref q) H'
theorem ok_lnames {f : Addr} {fd : FuncData} (F : At K mg "_law_names" sLNames ["hall"] f fd) : FnOk P w K mg base CX0 1 f fd ["hall"] (spLNames K) := by
  refine F.fn.ok scLNames (fun vs H Q E h => ?_) (fun cdv A outer s H vs Q E hr h => ?_)
  · obtain ⟨r, pm, pb, mv, bv, h, rfl, _⟩ := h
    rfl
  · obtain ⟨r, pm, pb, mv, bv, h, rfl, at_h, few, fin⟩ := h
    have nd := scLNames.nd
    refine ⟨_, pss_one (ps_ret (pe_lc (own := [("machine", 1)]) (g := gName 1) (tt := tYes) rfl nd (pi_tup (pe_ix ix_tup (pv 0) pe_int (fun _ _ => rfl))) (blkOk_by (N := ["hall", "machine"]) (sc := defScope sLNames) (by decide +kernel))
      (fun _ _ _ _ _ => pg_name (i := 1) nd rfl (Or.inl rfl)) (fun _ _ _ _ _ => pts_nil) (fun _ _ _ _ _ => pe_ix (r := rIxT K) ix_tup (pv 1) pe_int (fun _ _ => rfl)))), ?_⟩
    refine ⟨_, rfl, r, _, 0, _, rfl, rfl, at_h.r, atI_nat (j := 0) rfl, pm, rfl, ⟨_, at_h.m⟩, fun D nD => ?_⟩
    refine lc_tup (K := K) (a := pm) (xs := mv) (fun i G => Same H G ∧ G D = some (.lst (((namesH h).take i).map V.str))) ⟨same_new nD, upd_same⟩ (fun i G _ ⟨s, _⟩ => sqt_up s at_h.m) ?_ ?_
    · rintro i v G at_i ⟨s, at_D⟩
      obtain ⟨m, t, p, pv, em, rfl, sqt, _⟩ := mach_at i v at_h.md at_i
      have lt : i < h.ms.length := (List.getElem?_eq_some_iff.mp em).1
      have e1 : (namesH h).take (i + 1) = (namesH h).take i ++ [m.1] := by
        unfold namesH
        rw [List.take_succ, List.getElem?_map, em]
        rfl
      refine ⟨rfl, _, rfl, t, _, 0, _, rfl, rfl, sqt_up s sqt, rfl, _, at_D, small1000 ?_, same_set s nD, ?_⟩
      · unfold namesH
        rw [List.length_map, List.length_take, List.length_map]
        omega
      · rw [upd_same, e1, List.map_append]
        rfl
    · rintro G ⟨s, at_D⟩
      refine fin G D s nD ?_
      rw [at_D, List.take_of_length_le (by unfold namesH; rw [List.length_map, at_h.mlen]; exact Nat.le_refl _)]
abbrev sNof : Stmt := topS 4
theorem scNof : FnScope ["hall", "machine"] ["hall"] (defScope sNof) := ⟨rfl, rfl, rfl, by decide +kernel, rfl, by decide +kernel, by decide +kernel⟩
def spNof (K : PySem.W.Frag) : Sp := fun vs H Q _ => ∃ (r pm pb : Addr) (mv bv : List V) (h : Hall), vs = [.ref r] ∧ HallIn K H r h pm pb mv bv ∧ h.ms.length ≤ 100 ∧
  ∀ H' q, Same H H' → H q = none → H' q = some (.tup ((namesH h).map V.str)) → Q (.ref q) H'
theorem ok_nof {f : Addr} {fd : FuncData} (F : At K mg "names_of" sNof ["hall"] f fd) (mt : mg "tuple" = none) : FnOk P w K mg base CX0 1 f fd ["hall"] (spNof K) := by
  have bt : bootBuiltins "tuple" = some (.type "tuple") := by decide +kernel
  refine F.fn.ok scNof (fun vs H Q E h => ?_) (fun cdv A outer s H vs Q E hr h => ?_)
  · obtain ⟨r, pm, pb, mv, bv, h, rfl, _⟩ := h
    rfl
  · obtain ⟨r, pm, pb, mv, bv, h, rfl, at_h, few, fin⟩ := h
    have nd := scNof.nd
    refine ⟨_, pss_one (ps_ret (pe_callTy call_tuple_of (by rfl) mt bt (pa_cons (pe_lc (own := [("machine", 1)]) (g := gName 1) (tt := tYes) rfl nd (pi_tup (pe_ix ix_tup (pv 0) pe_int (fun _ _ => rfl))) (blkOk_by (N := ["hall", "machine"]) (sc := defScope sNof) (by decide +kernel))
      (fun _ _ _ _ _ => pg_name (i := 1) nd rfl (Or.inl rfl)) (fun _ _ _ _ _ => pts_nil) (fun _ _ _ _ _ => pe_ix (r := rIxT K) ix_tup (pv 1) pe_int (fun _ _ => rfl))) pa_nil))), ?_⟩
    refine ⟨_, rfl, r, _, 0, _, rfl, rfl, at_h.r, atI_nat (j := 0) rfl, pm, rfl, ⟨_, at_h.m⟩, fun D nD => ?_⟩
    refine lc_tup (K := K) (a := pm) (xs := mv) (fun i G => Same H G ∧ G D = some (.lst (((namesH h).take i).map V.str))) ⟨same_new nD, upd_same⟩ (fun i G _ ⟨s, _⟩ => sqt_up s at_h.m) ?_ ?_
    · rintro i v G at_i ⟨s, at_D⟩
      obtain ⟨m, t, p, pv, em, rfl, sqt, _⟩ := mach_at i v at_h.md at_i
      have lt : i < h.ms.length := (List.getElem?_eq_some_iff.mp em).1
      have e1 : (namesH h).take (i + 1) = (namesH h).take i ++ [m.1] := by
        unfold namesH
        rw [List.take_succ, List.getElem?_map, em]
        rfl
      refine ⟨rfl, _, rfl, t, _, 0, _, rfl, rfl, sqt_up s sqt, rfl, _, at_D, small1000 ?_, same_set s nD, ?_⟩
      · unfold namesH
        rw [List.length_map, List.length_take, List.length_map]
        omega
      · rw [upd_same, e1, List.map_append]
        rfl
    · rintro G ⟨s, at_D⟩
      rw [List.take_of_length_le (by unfold namesH; rw [List.length_map, at_h.mlen]; exact Nat.le_refl _)] at at_D
      refine ⟨D, _, rfl, .inl ⟨SqL.of at_D, fun l nl => ?_⟩⟩
      exact fin _ l (same_set s (s.free nl)) (s.free nl) upd_same
/-! ### a name is there -/
abbrev sChk : Stmt := topS 7
theorem scChk : FnScope ["hall", "name"] ["hall", "name"] (defScope sChk) := ⟨rfl, rfl, rfl, by decide +kernel, rfl, by decide +kernel, by decide +kernel⟩
def spChk (K : PySem.W.Frag) : Sp := fun vs H Q _ => ∃ (r pm pb : Addr) (mv bv : List V) (h : Hall) (x : Str), vs = [.ref r, .str x] ∧ HallIn K H r h pm pb mv bv ∧ h.ms.length ≤ 100 ∧ x ∈ namesH h ∧
  ∀ H', Same H H' → Q .non H'
theorem ok_chk {f fN : Addr} {fd fdN : FuncData} (F : At K mg "check_name" sChk ["hall", "name"] f fd) (N : At K mg "names_of" sNof ["hall"] fN fdN) (mt : mg "tuple" = none) : FnOk P w K mg base CX0 2 f fd ["hall", "name"] (spChk K) := by
  have GN : FnOk P w K mg base CX0 1 fN fdN ["hall"] (spNof K) := ok_nof N mt
  refine F.fn.ok scChk (fun vs H Q E h => ?_) (fun cdv A outer s H vs Q E hr h => ?_)
  · obtain ⟨r, pm, pb, mv, bv, h, x, rfl, _⟩ := h
    rfl
  · obtain ⟨r, pm, pb, mv, bv, h, x, rfl, at_h, few, mx, fin⟩ := h
    have nd := scChk.nd
    refine ⟨_, pss_one (ps_if (pt_cmpR op_notIn_seq (pv 1) (pe_call GN hr (by rfl) N.g N.fn.kp N.b .nil pass0 (pa_cons (pv 0) pa_nil)) (by rfl)) pss_never pss_nil), ?_⟩
    refine ⟨_, rfl, _, rfl, r, pm, pb, mv, bv, h, rfl, at_h, few, fun G q s q0 at_q => ?_⟩
    refine ⟨q, _, rfl, .inr (.inl (.inl at_q)), rfl, flat_strs _, _, rfl, ?_⟩
    rw [inV_strs, decide_eq_true mx]
    exact fin G s
end
end K24

namespace K24
open PySem PySem.Spec PyProof.Rows L2 Vd Evl
section
variable {P : Program} {w : World} {K : PySem.W.Frag} {mg : Str → Option Value} {base : Heap}
/-! ### the belts from a machine -/
theorem intsV_snoc (l : List Nat) (i : Nat) : (l.map fun j => V.int (j : Nat)) ++ [V.int (i : Nat)] = (l ++ [i]).map fun j => V.int (j : Nat) := by
  rw [List.map_append]
  rfl
abbrev sFrom : Stmt := topS 8
abbrev fromN : List Str := ["hall", "name", "index", "belt"]
theorem scFrom : FnScope fromN ["hall", "name"] (defScope sFrom) := ⟨rfl, rfl, rfl, by decide +kernel, rfl, by decide +kernel, by decide +kernel⟩
def spFrom (K : PySem.W.Frag) : Sp := fun vs H Q _ => ∃ (r pm pb : Addr) (mv bv : List V) (h : Hall) (x : Str), vs = [.ref r, .str x] ∧ HallIn K H r h pm pb mv bv ∧ h.ms.length ≤ 100 ∧ h.bs.length ≤ 100 ∧ x ∈ namesH h ∧
  ∀ H' q, Same H H' → H q = none → H' q = some (.tup ((fromL h.bs x h.bs.length).map fun j => V.int (j : Nat))) → Q (.ref q) H'
theorem ok_from {f fC fN : Addr} {fd fdC fdN : FuncData} (F : At K mg "belts_from" sFrom ["hall", "name"] f fd) (C : At K mg "check_name" sChk ["hall", "name"] fC fdC) (N : At K mg "names_of" sNof ["hall"] fN fdN) (mt : mg "tuple" = none) (me : mg "enumerate" = none) :
    FnOk P w K mg base CX0 3 f fd ["hall", "name"] (spFrom K) := by
  have GC : FnOk P w K mg base CX0 2 fC fdC ["hall", "name"] (spChk K) := ok_chk C N mt
  have bt : bootBuiltins "tuple" = some (.type "tuple") := by decide +kernel
  refine F.fn.ok scFrom (fun vs H Q E h => ?_) (fun cdv A outer s H vs Q E hr h => ?_)
  · obtain ⟨r, pm, pb, mv, bv, h, x, rfl, _⟩ := h
    rfl
  · obtain ⟨r, pm, pb, mv, bv, h, x, rfl, at_h, few, fewB, mx, fin⟩ := h
    have nd := scFrom.nd
    refine ⟨_, pss_cons (ps_expr (pe_call GC hr (by rfl) C.g C.fn.kp C.b .nil pass0 (pa_cons (pv 0) (pa_cons (pv 1) pa_nil))))
      (pss_one (ps_ret (pe_callTy call_tuple_of (by rfl) mt bt (pa_cons (pe_lc (own := [("index", 2), ("belt", 3)]) (g := gTup K 2 (gCons (gName 2) (gCons (gName 3) gNil))) rfl nd
        (pi_enumT (by rfl) me (pa_cons (pe_ix ix_tup (pv 0) pe_int (fun _ _ => rfl)) pa_nil)) (blkOk_by (N := fromN) (sc := defScope sFrom) (by decide +kernel))
      (fun _ _ _ _ _ => pg_tup rfl (pgs_cons (pg_name (i := 2) nd rfl (Or.inl rfl)) (pgs_cons (pg_name (i := 3) nd rfl (Or.inl rfl)) pgs_nil))) (fun _ _ _ _ _ => pts_one (pt_cmpR op_eq (pe_ix (r := rIxT K) ix_tup (pv 3) pe_int (fun _ _ => rfl)) (pv 1) (nomark _))) (fun _ _ _ _ _ => pv 2)) pa_nil)))), ?_⟩
    refine ⟨_, rfl, _, rfl, r, pm, pb, mv, bv, h, x, rfl, at_h, few, mx, fun G s => ?_⟩
    have at_g := at_h.up s
    refine ⟨_, rfl, r, _, 1, _, rfl, rfl, at_g.r, atI_nat (j := 1) rfl, pb, bv, rfl, at_g.bl, fun D nD => ?_⟩
    refine lc_it (walk_enumT (K := K) (a := pb) (xs := bv)) (fun i G' => Same G G' ∧ G' D = some (.lst ((fromL h.bs x i).map fun j => V.int (j : Nat)))) ⟨same_new nD, upd_same⟩ (fun i G' _ ⟨s', _⟩ => sqt_up s' at_g.bl) ?_ ?_
    · rintro i v G1 G2 lt ⟨s1, at_D⟩ ⟨T, a, c, rfl, nT, rfl, ea, ec⟩
      cases ea
      obtain ⟨m, t, em, rfl, sqt⟩ := belt_at i c at_g.bd ec
      have s2 := same_set (o := .tup [.int (i : Nat), .ref t]) s1 (s1.free nT)
      have DT : D ≠ T := ne_of_none at_D nT
      have at_D2 : upd G1 T (.tup [.int (i : Nat), .ref t]) D = some (.lst ((fromL h.bs x i).map fun j => V.int (j : Nat))) := by
        rw [upd_ne DT]
        exact at_D
      refine ⟨T, _, rfl, .inl (.inl upd_same), rfl, _, _, rfl, _, _, rfl, rfl, rfl, ?_⟩
      refine ⟨_, rfl, t, _, 0, _, rfl, rfl, sqt_up s2 sqt, rfl, _, rfl, rfl, _, rfl, ite2 (fun c1 => ?_) (fun c1 => ?_)⟩
      · have e1 : m.1 = x := by
          have := of_decide_eq_true c1
          injection this
        refine ⟨_, rfl, _, at_D2, small1000 ?_, same_set s2 nD, ?_⟩
        · rw [List.length_map]
          have := fromL_len (bs := h.bs) (x := x) (i := i)
          have := at_h.blen
          omega
        · rw [upd_same, fromL_succ em, if_pos e1, intsV_snoc]
      · have e1 : ¬ m.1 = x := fun z => c1 (decide_eq_true (by rw [z]))
        rw [fromL_succ em, if_neg e1]
        exact ⟨s2, at_D2⟩
    · rintro G1 ⟨s1, at_D⟩
      rw [at_h.blen] at at_D
      refine ⟨D, _, rfl, .inl ⟨SqL.of at_D, fun l nl => ?_⟩⟩
      exact fin _ l (s.trans (same_set s1 (s1.free nl))) (s.free (s1.free nl)) upd_same
end
end K24

namespace K24
open PySem PySem.Spec PyProof.Rows L2 Vd Evl
/-! ### a machine with its purses -/
def MIs (K : PySem.W.Frag) (H : Hp) (h : Hall) (x : Str) (v : V) : Prop := ∃ (m : Mach) (t p : Addr) (pv : List V), v = .ref t ∧ m ∈ h.ms ∧ m.1 = x ∧ SqT K H t [.str m.1, .int m.2.1, .ref p] ∧ SqT K H p pv ∧ DatAll K H pv (m.2.2.map pairD)
section
variable {K : PySem.W.Frag} {G G' : Hp} {h : Hall} {x : Str} {v : V}
theorem MIs.up (s : Same G G') (a : MIs K G h x v) : MIs K G' h x v := by
  obtain ⟨m, t, p, pv, e, mm, ex, s1, s2, d⟩ := a
  exact ⟨m, t, p, pv, e, mm, ex, sqt_up s s1, sqt_up s s2, DatAll.up s d⟩
def pursesH (h : Hall) (x : Str) : List (Int × Int) := ((h.ms.find? fun m => decide (m.1 = x)).map (·.2.2)).getD []
theorem pursesH_eq : ∀ {ms : List Mach} {m : Mach}, (ms.map (·.1)).Nodup → m ∈ ms → ms.find? (fun k => decide (k.1 = m.1)) = some m
  | k :: ms, m, nd, mm => by
    have nd' := List.nodup_cons.mp nd
    rcases List.mem_cons.mp mm with e | mm
    · subst e
      simp
    · have ne : ¬ k.1 = m.1 := fun e => nd'.1 (List.mem_map.mpr ⟨m, mm, e.symm⟩)
      rw [List.find?_cons_of_neg (by simpa using ne)]
      exact pursesH_eq nd'.2 mm
theorem Seen.purses (s : Seen h) {m : Mach} (mm : m ∈ h.ms) (e : m.1 = x) : pursesH h x = m.2.2 := by
  unfold pursesH
  rw [← e, pursesH_eq s.nodup mm]
  rfl
end
section
variable {P : Program} {w : World} {K : PySem.W.Frag} {mg : Str → Option Value} {base : Heap}
abbrev sMof : Stmt := topS 5
abbrev mofN : List Str := ["hall", "name", "machine"]
theorem scMof : FnScope mofN ["hall", "name"] (defScope sMof) := ⟨rfl, rfl, rfl, by decide +kernel, rfl, by decide +kernel, by decide +kernel⟩
def spMof (K : PySem.W.Frag) : Sp := fun vs H Q _ => ∃ (r pm pb : Addr) (mv bv : List V) (h : Hall) (x : Str), vs = [.ref r, .str x] ∧ HallIn K H r h pm pb mv bv ∧ h.ms.length ≤ 100 ∧ x ∈ namesH h ∧
  ∀ H' v, Same H H' → MIs K H' h x v → Q v H'
theorem ok_mof {f : Addr} {fd : FuncData} (F : At K mg "machine_of" sMof ["hall", "name"] f fd) : FnOk P w K mg base CX0 1 f fd ["hall", "name"] (spMof K) := by
  refine F.fn.ok scMof (fun vs H Q E h => ?_) (fun cdv A outer s H vs Q E hr h => ?_)
  · obtain ⟨r, pm, pb, mv, bv, h, x, rfl, _⟩ := h
    rfl
  · obtain ⟨r, pm, pb, mv, bv, h, x, rfl, at_h, few, mx, fin⟩ := h
    have nd := scMof.nd
    refine ⟨_, pss_cons (ps_for PassesOwn.never rfl (pi_tup (pe_ix ix_tup (pv 0) pe_int (fun _ _ => rfl))) (pg_name (i := 2) nd rfl (Or.inl rfl))
      (pss_one (ps_if (pt_cmpR op_eq (pe_ix ix_tup (pv 2) pe_int (fun _ _ => rfl)) (pv 1) (nomark _)) (pss_one (ps_ret (pv 2))) pss_nil))) pss_never, ?_⟩
    refine ⟨_, rfl, r, _, 0, _, rfl, rfl, at_h.r, atI_nat (j := 0) rfl, pm, rfl, ⟨_, at_h.m⟩, ?_⟩
    refine for_tup (K := K) (a := pm) (xs := mv) (fun i σ' G => ∃ v2 : Option V, σ' = ([some (.ref r), some (.str x), v2] : L2.St) ∧ Same H G ∧ x ∉ (namesH h).take i) ⟨none, rfl, Same.refl H, by simp⟩ (fun i σ' G _ ⟨_, _, s, _⟩ => sqt_up s at_h.m) ?_ ?_
    · rintro i v _ G at_i ⟨v2, rfl, s, no⟩
      obtain ⟨m, t, p, pv, em, rfl, sqt, sqp, dp⟩ := mach_at i v at_h.md at_i
      refine ⟨_, rfl, t, _, 0, _, rfl, rfl, sqt_up s sqt, rfl, _, rfl, rfl, _, rfl, ite2 (fun c1 => ?_) (fun c1 => ?_)⟩
      · have e1 : m.1 = x := by
          have := of_decide_eq_true c1
          injection this
        exact ⟨_, rfl, fin _ _ s ⟨m, t, p, pv, rfl, List.mem_of_getElem? em, e1, sqt_up s sqt, sqt_up s sqp, DatAll.up s dp⟩⟩
      · have e1 : ¬ m.1 = x := fun z => c1 (decide_eq_true (by rw [z]))
        refine ⟨_, rfl, s, fun z => ?_⟩
        have e2 : (namesH h).take (i + 1) = (namesH h).take i ++ [m.1] := by
          unfold namesH
          rw [List.take_succ, List.getElem?_map, em]
          rfl
        rw [e2] at z
        rcases List.mem_append.mp z with z | z
        · exact no z
        · exact e1 (List.mem_singleton.mp z).symm
    · rintro _ G ⟨v2, rfl, s, no⟩
      refine no ?_
      rw [List.take_of_length_le (by unfold namesH; rw [List.length_map, at_h.mlen]; exact Nat.le_refl _)]
      exact mx
abbrev sPof : Stmt := topS 6
theorem scPof : FnScope ["hall", "name"] ["hall", "name"] (defScope sPof) := ⟨rfl, rfl, rfl, by decide +kernel, rfl, by decide +kernel, by decide +kernel⟩
def spPof (K : PySem.W.Frag) : Sp := fun vs H Q _ => ∃ (r pm pb : Addr) (mv bv : List V) (h : Hall) (x : Str), vs = [.ref r, .str x] ∧ HallIn K H r h pm pb mv bv ∧ Seen h ∧ x ∈ namesH h ∧
  ∀ H' p pv, Same H H' → SqT K H' p pv → DatAll K H' pv ((pursesH h x).map pairD) → Q (.ref p) H'
theorem ok_pof {f fM : Addr} {fd fdM : FuncData} (F : At K mg "purses_of" sPof ["hall", "name"] f fd) (M : At K mg "machine_of" sMof ["hall", "name"] fM fdM) : FnOk P w K mg base CX0 2 f fd ["hall", "name"] (spPof K) := by
  have GM : FnOk P w K mg base CX0 1 fM fdM ["hall", "name"] (spMof K) := ok_mof M
  refine F.fn.ok scPof (fun vs H Q E h => ?_) (fun cdv A outer s H vs Q E hr h => ?_)
  · obtain ⟨r, pm, pb, mv, bv, h, x, rfl, _⟩ := h
    rfl
  · obtain ⟨r, pm, pb, mv, bv, h, x, rfl, at_h, seen, mx, fin⟩ := h
    have nd := scPof.nd
    refine ⟨_, pss_one (ps_ret (pe_ix ix_tup (pe_call GM hr (by rfl) M.g M.fn.kp M.b .nil pass0 (pa_cons (pv 0) (pa_cons (pv 1) pa_nil))) pe_int (fun _ _ => rfl))), ?_⟩
    refine ⟨_, rfl, _, rfl, r, pm, pb, mv, bv, h, x, rfl, at_h, Nat.le_trans seen.few (by decide), mx, fun G v s is => ?_⟩
    obtain ⟨m, t, p, pv, rfl, mm, ex, s1, s2, d⟩ := is
    refine ⟨t, _, 2, _, rfl, rfl, s1, rfl, ?_⟩
    exact fin G p pv s s2 (by rw [seen.purses mm ex]; exact d)
/-! ### the law's machine -/
abbrev sLMach : Stmt := topS 24
theorem scLMach : FnScope mofN ["hall", "name"] (defScope sLMach) := ⟨rfl, rfl, rfl, by decide +kernel, rfl, by decide +kernel, by decide +kernel⟩
theorem ok_lmach {f : Addr} {fd : FuncData} (F : At K mg "_law_machine" sLMach ["hall", "name"] f fd) : FnOk P w K mg base CX0 1 f fd ["hall", "name"] (spMof K) := by
  refine F.fn.ok scLMach (fun vs H Q E h => ?_) (fun cdv A outer s H vs Q E hr h => ?_)
  · obtain ⟨r, pm, pb, mv, bv, h, x, rfl, _⟩ := h
    rfl
  · obtain ⟨r, pm, pb, mv, bv, h, x, rfl, at_h, few, mx, fin⟩ := h
    have nd := scLMach.nd
    refine ⟨_, pss_one (ps_ret (pe_ix ix_list (pe_lc (own := [("machine", 2)]) (g := gName 2) rfl nd (pi_tup (pe_ix ix_tup (pv 0) pe_int (fun _ _ => rfl))) (blkOk_by (N := mofN) (sc := defScope sLMach) (by decide +kernel))
      (fun _ _ _ _ _ => pg_name (i := 2) nd rfl (Or.inl rfl)) (fun _ _ _ _ _ => pts_one (pt_cmpR op_eq (pe_ix (r := rIxT K) ix_tup (pv 2) pe_int (fun _ _ => rfl)) (pv 1) (nomark _))) (fun _ _ _ _ _ => pv 2)) pe_int (fun _ _ => rfl))), ?_⟩
    refine ⟨_, rfl, r, _, 0, _, rfl, rfl, at_h.r, atI_nat (j := 0) rfl, pm, rfl, ⟨_, at_h.m⟩, fun D nD => ?_⟩
    refine lc_tup (K := K) (a := pm) (xs := mv) (fun i G => Same H G ∧ ∃ L, G D = some (.lst L) ∧ L.length ≤ i ∧ (∀ v ∈ L, MIs K H h x v) ∧ (x ∈ (namesH h).take i → L ≠ [])) ⟨same_new nD, [], upd_same, Nat.le_refl _, (fun v m => nomatch m), (fun m => by simp at m)⟩ (fun i G _ ⟨s, _⟩ => sqt_up s at_h.m) ?_ ?_
    · rintro i v G at_i ⟨s, L, at_D, short, all, some_⟩
      obtain ⟨m, t, p, pv, em, rfl, sqt, sqp, dp⟩ := mach_at i v at_h.md at_i
      have lt : i < h.ms.length := (List.getElem?_eq_some_iff.mp em).1
      have e2 : (namesH h).take (i + 1) = (namesH h).take i ++ [m.1] := by
        unfold namesH
        rw [List.take_succ, List.getElem?_map, em]
        rfl
      refine ⟨rfl, _, rfl, t, _, 0, _, rfl, rfl, sqt_up s sqt, rfl, _, rfl, rfl, _, rfl, ite2 (fun c1 => ?_) (fun c1 => ?_)⟩
      · have e1 : m.1 = x := by
          have := of_decide_eq_true c1
          injection this
        have s3 : Same H (upd G D (.lst (L ++ [.ref t]))) := same_set s nD
        refine ⟨_, rfl, L, at_D, small1000 (by omega), s3, L ++ [.ref t], upd_same, by simp; omega, fun v mv => ?_, fun _ => by simp⟩
        rcases List.mem_append.mp mv with z | z
        · exact all v z
        · rw [List.mem_singleton.mp z]
          exact ⟨m, t, p, pv, rfl, List.mem_of_getElem? em, e1, sqt, sqp, dp⟩
      · have e1 : ¬ m.1 = x := fun z => c1 (decide_eq_true (by rw [z]))
        refine ⟨s, L, at_D, Nat.le_succ_of_le short, all, fun z => ?_⟩
        rw [e2] at z
        rcases List.mem_append.mp z with z | z
        · exact some_ z
        · exact absurd (List.mem_singleton.mp z).symm e1
    · rintro G ⟨s, L, at_D, short, all, some_⟩
      rw [List.take_of_length_le (by unfold namesH; rw [List.length_map, at_h.mlen]; exact Nat.le_refl _)] at some_
      have ne := some_ mx
      cases L with
      | nil => exact absurd rfl ne
      | cons v L =>
        refine ⟨D, _, 0, v, rfl, rfl, SqL.of at_D, atI_nat (j := 0) rfl, fin G v s ((all v (.head _)).up s)⟩
end
end K24

namespace K24
open PySem PySem.Spec PyProof.Rows L2 Vd Evl
section
variable {P : Program} {w : World} {K : PySem.W.Frag} {mg : Str → Option Value} {base : Heap}
/-! ### the belt home -/
def optV : Option Nat → V
  | some j => .int (j : Nat)
  | none => .non
theorem fls_list (bs : List Nat) : ((bs.map fun j => V.int (j : Nat)).isEmpty) = bs.isEmpty := by cases bs <;> rfl
abbrev sBH : Stmt := topS 12
abbrev bhN : List Str := ["hall", "name", "belts"]
theorem scBH : FnScope bhN ["hall", "name"] (defScope sBH) := ⟨rfl, rfl, rfl, by decide +kernel, rfl, by decide +kernel, by decide +kernel⟩
def spBH (K : PySem.W.Frag) : Sp := fun vs H Q _ => ∃ (r pm pb : Addr) (mv bv : List V) (h : Hall) (x : Str), vs = [.ref r, .str x] ∧ HallIn K H r h pm pb mv bv ∧ h.ms.length ≤ 100 ∧ h.bs.length ≤ 100 ∧ x ∈ namesH h ∧
  ∀ H', Same H H' → Q (optV (firstL h x)) H'
theorem ok_bh {f fF fC fN : Addr} {fd fdF fdC fdN : FuncData} (F : At K mg "belt_home" sBH ["hall", "name"] f fd) (B : At K mg "belts_from" sFrom ["hall", "name"] fF fdF) (C : At K mg "check_name" sChk ["hall", "name"] fC fdC) (N : At K mg "names_of" sNof ["hall"] fN fdN)
    (mt : mg "tuple" = none) (me : mg "enumerate" = none) : FnOk P w K mg base CX0 4 f fd ["hall", "name"] (spBH K) := by
  have GB : FnOk P w K mg base CX0 3 fF fdF ["hall", "name"] (spFrom K) := ok_from B C N mt me
  refine F.fn.ok scBH (fun vs H Q E h => ?_) (fun cdv A outer s H vs Q E hr h => ?_)
  · obtain ⟨r, pm, pb, mv, bv, h, x, rfl, _⟩ := h
    rfl
  · obtain ⟨r, pm, pb, mv, bv, h, x, rfl, at_h, few, fewB, mx, fin⟩ := h
    have nd := scBH.nd
    refine ⟨_, pss_cons (ps_set (i := 2) nd rfl (Or.inl rfl) (pe_call GB hr (by rfl) B.g B.fn.kp B.b .nil pass0 (pa_cons (pv 0) (pa_cons (pv 1) pa_nil))))
      (pss_one (ps_ret (pe_ifExp (pt_truth (pv 2) (by intro _; rfl)) (pe_ix ix_tup (pv 2) pe_int (fun _ _ => rfl)) pe_non))), ?_⟩
    refine ⟨_, rfl, _, rfl, r, pm, pb, mv, bv, h, x, rfl, at_h, few, fewB, mx, fun G q s q0 at_q => ?_⟩
    have sq : SqT K G q ((fromL h.bs x h.bs.length).map fun j => V.int (j : Nat)) := .inl (.inl at_q)
    refine ⟨_, rfl, (!((fromL h.bs x h.bs.length).map fun j => V.int (j : Nat)).isEmpty), .inr (.inl ⟨_, sq, rfl⟩), ?_⟩
    have f := fin G s
    unfold firstL at f
    cases e : fromL h.bs x h.bs.length with
    | nil =>
      rw [e] at f
      exact iteF f
    | cons j l =>
      rw [e] at f sq
      exact iteT ⟨_, rfl, q, _, 0, _, rfl, rfl, sq, atI_nat (j := 0) rfl, f⟩
/-! ### the belts home -/
abbrev sBsH : Stmt := topS 13
abbrev bshN : List Str := ["hall", "name", "found", "belt"]
theorem scBsH : FnScope bshN ["hall", "name"] (defScope sBsH) := ⟨rfl, rfl, rfl, by decide +kernel, rfl, by decide +kernel, by decide +kernel⟩
def spWay (K : PySem.W.Frag) : Sp := fun vs H Q _ => ∃ (r pm pb : Addr) (mv bv : List V) (h : Hall) (x : Str) (p : List Nat), vs = [.ref r, .str x] ∧ HallIn K H r h pm pb mv bv ∧ Seen h ∧ treeH h ∧ x ∈ namesH h ∧ Home h x p ∧
  ∀ H' q, Same H H' → H q = none → H' q = some (.lst (p.map fun j => V.int (j : Nat))) → Q (.ref q) H'
theorem first_none {h : Hall} (t : treeH h) : firstL h h.fl = none := by
  unfold firstL
  rw [first_fl t]
  rfl
theorem ok_bsh {f fH fF fC fN : Addr} {fd fdH fdF fdC fdN : FuncData} (F : At K mg "belts_home" sBsH ["hall", "name"] f fd) (Ho : At K mg "belt_home" sBH ["hall", "name"] fH fdH) (B : At K mg "belts_from" sFrom ["hall", "name"] fF fdF) (C : At K mg "check_name" sChk ["hall", "name"] fC fdC) (N : At K mg "names_of" sNof ["hall"] fN fdN)
    (mt : mg "tuple" = none) (me : mg "enumerate" = none) : FnOk P w K mg base CX0 5 f fd ["hall", "name"] (spWay K) := by
  have GH : FnOk P w K mg base CX0 4 fH fdH ["hall", "name"] (spBH K) := ok_bh Ho B C N mt me
  refine F.fn.ok scBsH (fun vs H Q E h => ?_) (fun cdv A outer s H vs Q E hr h => ?_)
  · obtain ⟨r, pm, pb, mv, bv, h, x, p, rfl, _⟩ := h
    rfl
  · obtain ⟨r, pm, pb, mv, bv, h, x, p, rfl, at_h, seen, tree, mx, home, fin⟩ := h
    have nd := scBsH.nd
    have few : h.ms.length ≤ 100 := Nat.le_trans seen.few (by decide)
    have fewB : h.bs.length ≤ 100 := Nat.le_trans seen.fewB (by decide)
    refine ⟨_, pss_cons (ps_set (i := 2) nd rfl (Or.inl rfl) (pe_lst pa_nil))
      (pss_cons (ps_set (i := 3) nd rfl (Or.inl rfl) (pe_call GH hr (by rfl) Ho.g Ho.fn.kp Ho.b .nil pass0 (pa_cons (pv 0) (pa_cons (pv 1) pa_nil))))
      (pss_cons (ps_while PassesOwn.never (pt_cmp (pc_notN (pv 3)))
        (pss_cons (ps_expr (pe_bm PySem.F.plainAttrs_list PySem.F.slot_list_append PySem.F.type_list_append mt_append (pv 2) (pa_cons (pv 3) pa_nil)))
        (pss_one (ps_set (i := 3) nd rfl (Or.inl rfl) (pe_call GH hr (by rfl) Ho.g Ho.fn.kp Ho.b .nil pass0 (pa_cons (pv 0) (pa_cons (pe_ix ix_tup (pe_ix ix_tup (pe_ix ix_tup (pv 0) pe_int (fun _ _ => rfl)) (pv 3) (fun _ _ => rfl)) pe_int (fun _ _ => rfl)) pa_nil)))))))
      (pss_one (ps_ret (pv 2))))), ?_⟩
    refine ⟨len_line (by show 0 ≤ 100000; decide), fun q nq => ?_⟩
    have s0 := same_new (o := .lst []) nq
    refine ⟨_, rfl, _, rfl, r, pm, pb, mv, bv, h, x, rfl, at_h.up s0, few, fewB, mx, fun G s1 => ?_⟩
    have at_q := s1 _ _ (upd_same (H := H) (a := q) (o := .lst []))
    refine ⟨fun k σ' G => ∃ (y : Str) (front back : List Nat), σ' = ([some (.ref r), some (.str x), some (.ref q), some (optV (firstL h y))] : L2.St) ∧ Same H G ∧ G q = some (.lst (front.map fun j => V.int (j : Nat))) ∧ Home h y back ∧ front ++ back = p ∧ back.length = k,
      ⟨p.length, x, [], p, rfl, s0.trans s1, at_q, home, rfl, rfl⟩, ?_⟩
    rintro k _ G1 ⟨y, front, back, rfl, s2, at2, hy, app, rfl⟩
    have short := home.short seen
    cases hy with
    | done =>
      refine ⟨_, rfl, _, rfl, ?_⟩
      rw [first_none tree]
      rw [List.append_nil] at app
      subst app
      exact iteF ⟨_, rfl, fin G1 q s2 nq at2⟩
    | @step _ j m back n f e st hm =>
      have mm : m ∈ h.bs := List.mem_of_getElem? e
      refine ⟨_, rfl, _, rfl, ?_⟩
      rw [f]
      refine iteT ⟨fun σ' G => ∃ (y : Str) (front back' : List Nat), σ' = ([some (.ref r), some (.str x), some (.ref q), some (optV (firstL h y))] : L2.St) ∧ Same H G ∧ G q = some (.lst (front.map fun j => V.int (j : Nat))) ∧ Home h y back' ∧ front ++ back' = p ∧ back'.length = back.length,
        fun σ' H' hN => ⟨back.length, by show back.length < back.length + 1; omega, hN⟩, ?_⟩
      have lenf : front.length ≤ 9 := by
        have := congrArg List.length app
        rw [List.length_append] at this
        omega
      refine ⟨_, rfl, .inl ⟨rfl, _, SqL.of at2⟩, _, rfl, q, _, .int (j : Nat), rfl, rfl, at2, small1000 (by rw [List.length_map]; omega), ?_⟩
      have s3 : Same H (upd G1 q (.lst ((front.map fun j => V.int (j : Nat)) ++ [.int (j : Nat)]))) := same_set s2 nq
      have at_3 := at_h.up s3
      obtain ⟨v, hv⟩ : ∃ v, bv[j]? = some v := by
        have lt : j < h.bs.length := (List.getElem?_eq_some_iff.mp e).1
        rw [← at_h.blen] at lt
        exact ⟨_, List.getElem?_eq_getElem lt⟩
      obtain ⟨m', t, em, rfl, sqt⟩ := belt_at j v at_3.bd hv
      have em' : m' = m := by
        rw [e] at em
        injection em with z
        exact z.symm
      subst em'
      have mend := (seen.ends m' mm).2
      refine ⟨_, rfl, _, rfl, r, _, 1, _, rfl, rfl, at_3.r, atI_nat (j := 1) rfl, _, rfl, pb, _, (j : Nat), _, rfl, rfl, at_3.bl, atI_nat hv, t, _, 1, _, rfl, rfl, sqt, atI_nat (j := 1) rfl, ?_⟩
      refine ⟨r, pm, pb, mv, bv, h, m'.2.1, rfl, at_3, few, fewB, mend, fun G4 s4 => ?_⟩
      refine ⟨m'.2.1, front ++ [j], back, rfl, s3.trans s4, ?_, hm, by rw [List.append_assoc]; exact app, rfl⟩
      rw [← intsV_snoc]
      exact s4 _ _ upd_same
end
end K24

namespace Vd
open PySem PySem.Spec PyProof.Rows L2
theorem same_put {G : Hp} {p : Addr} {o : HO} (n : G p = none) : Same G (upd G p o) := fun b x e => by
  rw [upd_ne (ne_of_none e n)]
  exact e
/-! ### a tuple times 0, 1 -/
theorem tuple_mul1 (l : Addr) (items : Array Value) (n : Nat) (dd : Option Addr) (sl : Array (Option Value)) (u : Tok) :
    Meets (Builtin.«tuple.__mul__» ⟨[.ref l, .int 1 u], []⟩) (fun _ R s => s.heap.get? l = some { cls := .type "tuple", dict := dd, data := .seq items n, slots := sl } ∧ R (.ok (.ret (Value.ref l))) s) :=
  .of_wp fun prog w A R s h => by
    obtain ⟨hp, g, d, tk, os⟩ := s
    obtain ⟨hl, h⟩ := h
    have f1 := AutoSeq1.idx_int
    have c1 : (items.isEmpty || (1 : Int) == 1) = true := by simp
    wp_walk using wpAny_loadPart' hl
    repeat (first
      | (refine wpAny_ite_true (by simp) ?_; wp_walk using wpAny_loadPart' hl)
      | (refine wpAny_ite_false (by decide) ?_; wp_walk using wpAny_loadPart' hl))
    exact ⟨_, rfl, h⟩
theorem tuple_mul0 (l : Addr) (items : Array Value) (n : Nat) (dd : Option Addr) (sl : Array (Option Value)) (u : Tok) (ne : items.isEmpty = false) :
    Meets (Builtin.«tuple.__mul__» ⟨[.ref l, .int 0 u], []⟩) (fun _ R s => s.heap.get? l = some { cls := .type "tuple", dict := dd, data := .seq items n, slots := sl } ∧
      R (.ok (.ret (Value.ref s.heap.objs.size))) { s with heap := s.heap.push { cls := Value.type "tuple", data := Data.seq #[] }, toks := s.toks }) :=
  .of_wp fun prog w A R s h => by
    obtain ⟨hp, g, d, tk, os⟩ := s
    obtain ⟨hl, h⟩ := h
    have f1 := AutoSeq1.idx_int
    wp_walk using wpAny_loadPart' hl
    repeat (first
      | (refine wpAny_ite_false (by rw [ne]; decide) ?_; wp_walk using wpAny_loadPart' hl)
      | (refine wpAny_ite_true (by simp) ?_; wp_walk using wpAny_loadPart' hl)
      | (refine wpAny_ite_false (by decide) ?_; wp_walk using wpAny_loadPart' hl))
    exact ⟨_, rfl, h⟩
section
variable {X : Cx}
/-- t * 0, t * 1, t * 2 .. -/
def rRepS (K : PySem.W.Frag) : R2 := fun x y H Q => ∃ (l : Addr) (k : Nat) (xs : List V), x = .ref l ∧ y = .int k ∧ SqT K H l xs ∧ xs ≠ [] ∧ k ≤ 1000 ∧ xs.length ≤ 1000 ∧
  ((k = 1 ∧ Q (.ref l) H) ∨ (k ≠ 1 ∧ ∀ p, H p = none → Q (.ref p) (upd H p (.tup (List.replicate k xs).flatten))))
theorem op_repS : OpR X (binaryOp .Mult) (rRepS X.K) := by
  intro pins s σ H x y v u Q I rx ry h
  obtain ⟨l, k, xs, rfl, rfl, hT, hne, h1, hz, q⟩ := h
  match k, h1, q, ry with
  | 0, _, q, ry =>
    have q : (0 : Nat) ≠ 1 ∧ _ := q.resolve_left fun z => nomatch z.1
    cases rx
    obtain ⟨t, rfl⟩ := ry
    obtain ⟨its, r, ⟨⟨cls, dd, data, sl⟩, ho, hc, n, hd⟩, hs⟩ := I.tuple hT
    simp only at hc hd
    subst hc hd
    have hi : its.toArray.isEmpty = false := by
      cases its with
      | nil =>
        cases r
        exact absurd rfl hne
      | cons a b => rfl
    refine wpAny_binaryOp_repeat_ref (T := "tuple") (U := "int") (by decide) ⟨_, ho, rfl⟩ (fun s' => typeIs_int s' _ t) noFill_tuple_mul F.fills_int_mul F.slot_int_rmul repeat_tuple F.slot_int_index.lookup
      (call_meets F.slot_int_rmul (typeIs_int s _ t) F.entry_int_rmul (F.args_int_rmul_2 _ _) (int_rmul_tuple _ t l its.toArray n dd sl)
        ⟨ho, rfl, ⟨_, ho, rfl⟩, call_meets F.slot_tuple_mul ⟨_, ho, rfl⟩ F.entry_tuple_mul (F.args_tuple_mul_2 _ _) (tuple_mul0 l its.toArray n dd sl t hi) ⟨ho, ?_⟩⟩)
    refine ⟨.ref s.heap.objs.size, _, I.laid (t' := s.toks) (o := .tup []) (fun b ob q => Heap.get?_push_of_some _ q) (Nat.le_refl _) ?_, rfl, q.2 _ (I.hok.fresh (Nat.le_refl _))⟩
    exact ⟨Nat.zero_le _, _, .nil, IsTup.new _ _⟩
  | 1, _, q, ry =>
    cases rx
    obtain ⟨t, rfl⟩ := ry
    obtain ⟨its, r, ⟨⟨cls, dd, data, sl⟩, ho, hc, n, hd⟩, hs⟩ := I.tuple hT
    simp only at hc hd
    subst hc hd
    refine wpAny_binaryOp_repeat_ref (T := "tuple") (U := "int") (by decide) ⟨_, ho, rfl⟩ (fun s' => typeIs_int s' _ t) noFill_tuple_mul F.fills_int_mul F.slot_int_rmul repeat_tuple F.slot_int_index.lookup
      (call_meets F.slot_int_rmul (typeIs_int s _ t) F.entry_int_rmul (F.args_int_rmul_2 _ _) (int_rmul_tuple _ t l its.toArray n dd sl)
        ⟨ho, rfl, ⟨_, ho, rfl⟩, call_meets F.slot_tuple_mul ⟨_, ho, rfl⟩ F.entry_tuple_mul (F.args_tuple_mul_2 _ _) (tuple_mul1 l its.toArray n dd sl t) ⟨ho, ?_⟩⟩)
    exact ⟨.ref l, H, I, rfl, (q.resolve_right fun z => z.1 rfl).2⟩
  | k + 2, h1, q, ry =>
    refine op_repT pins s σ H _ _ v u Q I rx ry ⟨l, _, xs, rfl, rfl, hT, hne, by omega, by omega, hz, fun p np => ?_⟩
    have e : ((((k + 2 : Nat) : Int)).toNat) = k + 2 := Int.toNat_natCast _
    rw [e]
    exact (q.resolve_left fun z => by omega).2 p np
end
end Vd

namespace Vd
open PySem PySem.Spec PyProof.Rows L2 HT
/-! ### a tuple == () -/
section
open AutoSeq1 MeetsSeq MeetsSeq2 MeetsSeq3 SeqRoads2
variable {prog : Program} {w : World}
theorem eqTup0 (l b : Addr) (xs : Array Value) (n m : Nat) (d1 d2 : Option Addr) (s1 s2 : Array (Option Value)) :
    MeetsIn prog w (Builtin.«tuple.__eq__» ⟨[.ref l, .ref b], []⟩)
      (fun A R s => s.heap.get? l = some { cls := .type "tuple", dict := d1, data := .seq xs n, slots := s1 } ∧ s.heap.get? b = some { cls := .type "tuple", dict := d2, data := .seq #[] m, slots := s2 } ∧ R (.ok (.ret (.bool (xs.size == 0)))) s) := by
  refine MeetsIn.of_wp fun A R s h => ?_
  obtain ⟨hp, g, d, tk, os⟩ := s
  obtain ⟨hl, hb, h⟩ := h
  have both := AutoSeq1.sub_tuple_tuple
  wp_walk using wpAny_loadPart' hl, wpAny_loadPart' hb, wpAny_forIn_list _ (fun rest b s' => rest = [] ∧ b.1 = none ∧ s' = ⟨hp, g, d, tk, os⟩) _
  case turn =>
    rintro ⟨y, x⟩ rest b s' ⟨no, _, _⟩
    cases no
  case fin =>
    rintro ⟨b1, b2⟩ s' ⟨_, none1, rfl⟩
    simp only at none1
    subst none1
    wp_walk
    refine ⟨_, rfl, ?_⟩
    simpa [Builtin.Tuple.tupleCompareSizes] using h
  case h => exact ⟨by simp, rfl, rfl⟩
theorem rcTup0 {A : Around} {s : Shared} {l b : Addr} {xs : Array Value} (hl : s.heap.IsTuple l xs) (hb : s.heap.IsTuple b #[]) (room : A.units < cLine) (E Q : Value → Shared → Prop) (h : Q (.bool (xs.size == 0)) s) :
    wpAny (model prog w) A (richCompare .Eq (.ref l) (.ref b)) Q E s := by
  obtain ⟨⟨_, d1, _, s1⟩, o1, rfl, n, rfl⟩ := id hl
  obtain ⟨⟨_, d2, _, s2⟩, o2, rfl, m, rfl⟩ := id hb
  have t1 : s.TypeIs (.ref l) "tuple" := ⟨_, o1, rfl⟩
  refine wpAny_richCompare_same_room (op := .Eq) t1 ⟨_, o2, rfl⟩ F.slot_tuple_eq ?_ room
  exact call_meetsIn F.slot_tuple_eq t1 F.entry_tuple_eq (F.args_tuple_eq_2 _ _) (eqTup0 l b xs n m d1 d2 s1 s2) ⟨o1, o2, (show Value.bool (xs.size == 0) ≠ Value.notImplemented ∧ Q (.bool (xs.size == 0)) s from ⟨fun no => (nomatch no), h⟩)⟩
end
section
variable {X : Cx}
/-- t == () -/
theorem op_eqNilT (room : X.A.units + 64 < cLine) : OpR X (compareOp .Eq) (fun x y H Q => ∃ a b xs, x = .ref a ∧ y = .ref b ∧ SqT X.K H a xs ∧ SqT X.K H b [] ∧ Q (.bl xs.isEmpty) H) := by
  rintro pins s σ H x y u v Q I rx ry ⟨a, b, xs, rfl, rfl, h1, h2, q⟩
  cases rx
  cases ry
  obtain ⟨its, r1, ⟨o1, e1, c1, n1, d1⟩, _⟩ := I.tuple h1
  obtain ⟨its2, r2, ⟨o2, e2, c2, n2, d2⟩, _⟩ := I.tuple h2
  cases r2
  refine rcTup0 ⟨o1, e1, c1, n1, d1⟩ ⟨o2, e2, c2, n2, d2⟩ (by omega) _ _ ⟨.bl xs.isEmpty, H, I, ?_, q⟩
  have len := r1.length
  cases xs with
  | nil => cases r1; rfl
  | cons z zs =>
    cases r1
    rfl
/-- s * 2 -/
theorem op_strTwice : OpR X (binaryOp .Mult) (fun x y H Q => ∃ z : Str, x = .str z ∧ y = .int 2 ∧ 2 * z.length ≤ 1000000 ∧ ∀ z2 : Str, z2.cps.toList = z.cps.toList ++ z.cps.toList → Q (.str z2) H) := by
  rintro pins s σ H x y u v Q I rx ry ⟨z, rfl, rfl, few, q⟩
  obtain ⟨t1, rfl⟩ := rx
  obtain ⟨t2, rfl⟩ := ry
  have big := sizeLine_eq
  refine PySem.P.mul_str (by decide) (fun _ _ => ?_) (fun _ _ => ?_) ?_
  · have e : ((2 : Int) ^ 63 - 1) / 2 = 4611686018427387903 := by decide
    rw [e]
    omega
  · unfold PySem.Builtin.Str.tooLong
    have e : ((2 : Int).toNat) = 2 := rfl
    rw [e]
    simp
    omega
  · rw [if_neg (by decide)]
    by_cases e : z.length = 0
    · have c : ((2 : Int) == 1 || z.length == 0) = true := by simp [e]
      rw [if_pos c]
      refine ⟨.str z, H, I, ⟨t1, rfl⟩, q z ?_⟩
      have : z.cps.toList = [] := List.eq_nil_of_length_eq_zero (by simpa [Str.length] using e)
      rw [this]
      rfl
    · have c : ((2 : Int) == 1 || z.length == 0) = false := by simp [e]
      rw [if_neg (by rw [c]; decide)]
      refine ⟨?_, ⟨.str _, H, I.kept (t' := s.toks + 1) fun _ _ e => e, ⟨_, rfl⟩, q _ ?_⟩⟩
      · show _ ≤ sizeLine
        simp [Str.length, List.replicate] at few ⊢
        omega
      · show (List.foldl (fun x1 x2 => x1 ++ x2) #[] (List.replicate 2 z.cps)).toList = _
        simp [List.replicate]
end
/-! ### t[::-1] -/
section
variable {prog : Program} {w : World} {A : Around} {E : Value → Shared → Prop} {s : Shared}
theorem rev_pick (items : Array Value) : ((List.range items.size).filterMap fun (k : Nat) => items[(((items.size : Int) - 1) + (k : Int) * (-1)).toNat]?) = items.toList.reverse := by
  have e : ∀ k ∈ List.range items.size, (((items.size : Int) - 1) + (k : Int) * (-1)).toNat = items.size - 1 - k := fun k m => by
    have := List.mem_range.mp m
    omega
  have e2 : ((List.range items.size).filterMap fun (k : Nat) => items[(((items.size : Int) - 1) + (k : Int) * (-1)).toNat]?) = ((List.range items.size).map fun k => items.size - 1 - k).filterMap (items[·]?) := by
    rw [List.filterMap_map]
    generalize List.range items.size = l at e
    induction l with
    | nil => rfl
    | cons a l ih =>
      rw [List.filterMap_cons, List.filterMap_cons, ih fun k m => e k (.tail _ m), e a (.head _)]
      rfl
  rw [e2, PySem.W.krv_range, List.filterMap_reverse, PySem.W.krv_all]
theorem getItem_tuple_rev {t sl : Addr} {items : Array Value} {vl vu vs : Value} {Q : Value → Shared → Prop} (ht : IsTup s.heap t items) (hs : s.heap.IsSliceOf sl vl vu vs) (pl : IsPart vl none) (pu : IsPart vu none) (ps : IsPart vs (some (-1)))
    (h : Q (.ref s.heap.objs.size) { s with heap := s.heap.push { cls := .type "tuple", data := .seq items.toList.reverse.toArray } })
    (hsz : items.size ≤ sizeLine) : wpAny (model prog w) A (getItem (.ref t) (.ref sl)) Q E s := by
  have htake : sizeOk (.seq items.toList.reverse.toArray) := by
    show items.toList.reverse.toArray.size ≤ sizeLine
    simpa using hsz
  obtain ⟨os, hos, hcs, hds⟩ := id hs
  have hTs : s.TypeIs (.ref sl) "slice" := ⟨os, hos, hcs⟩
  unfold getItem
  try with_reducible refine wpAny_holding ?_
  first | refine wpAny_bind (wpAny_pure ?_) | skip
  refine wpAny_bind (wpAny_sequenceKey ht.typeIs (by decide) ?_)
  refine wpAny_bind (wpAny_callSpecial?_slot (name := Str.ofString "__getitem__") ht.typeIs PyProof.Rows.slot_tuple_getitem
    (wpAny_call_entry PyProof.Rows.slot_tuple_getitem ht.typeIs entry_tuple_getitem ?_ (args_tuple_getitem _ _)))
  show wpAny _ _ (Builtin.Tuple.tupleItemsOf (.ref t) >>= _) _ _ s
  refine wpAny_bind (tupleItemsOf_ ht ?_)
  refine wpAny_bind (wpAny_typeOf hTs ?_)
  rw [if_pos (by decide)]
  have app : ∀ Q' : Int × Int × Nat → Shared → Prop, Q' ((items.size : Int) - 1, -1, items.size) s → wpAny (model prog w) A.in1 (Builtin.Slice.sliceApplied (.ref sl) (pure (items.size : Int))) Q' E s := fun Q' q => by
    unfold Builtin.Slice.sliceApplied Builtin.Slice.sliceFields
    refine wpAny_bind (wpAny_bind (wpAny_field hos hds (x := vl) rfl (wpAny_bind (wpAny_field hos hds (x := vu) rfl (wpAny_bind (wpAny_field hos hds (x := vs) rfl (wpAny_pure ?_)))))))
    refine wpAny_bind (HT.slicePart_ ps ?_)
    show wpAny _ _ (if ((-1 : Int) == 0) = true then _ else _) _ _ s
    rw [if_neg (by decide)]
    refine wpAny_bind (HT.slicePart_ pl (wpAny_bind (HT.slicePart_ pu (wpAny_bind (wpAny_pure ?_)))))
    show wpAny _ _ (match Builtin.Slice.sliceAdjust none none (-1) (items.size : Int) with | (lo, hi) => pure (lo, (-1 : Int), Builtin.Slice.slicePlaces lo hi (-1))) _ _ s
    have e1 : Builtin.Slice.sliceAdjust none none (-1) (items.size : Int) = ((items.size : Int) - 1, -1) := by
      simp [Builtin.Slice.sliceAdjust]
    rw [e1]
    have e2 : Builtin.Slice.slicePlaces ((items.size : Int) - 1) (-1) (-1) = items.size := by
      unfold Builtin.Slice.slicePlaces
      rw [if_neg (by decide)]
      by_cases z : items.size = 0
      · rw [z]
        rfl
      · rw [if_pos (by omega)]
        show ((((items.size : Int) - 1 - -1 - 1) / 1) + 1).toNat = items.size
        rw [Int.ediv_one]
        omega
    show wpAny _ _ (pure ((items.size : Int) - 1, (-1 : Int), Builtin.Slice.slicePlaces ((items.size : Int) - 1) (-1) (-1))) _ _ s
    rw [e2]
    exact wpAny_pure q
  refine wpAny_bind (app _ ?_)
  show wpAny _ _ (if (((items.size : Int) - 1) == 0 && (-1 : Int) == 1 && items.size == items.size) = true then _ else _) _ _ s
  have hno : ¬ ((((items.size : Int) - 1) == 0 && (-1 : Int) == 1 && items.size == items.size) = true) := by
    simp
  rw [if_neg hno, rev_pick]
  first
    | exact wpAny_bind (m := Builtin.Tuple.tupleExact _) (wpAny_newObj_type (wpAny_pure ⟨_, rfl, wpAny_pure h⟩) htake)
    | exact wpAny_bind (m := Builtin.Tuple.tupleExact _) (wpAny_newObj_type (wpAny_bind (wpAny_pure (wpAny_pure ⟨_, rfl, wpAny_pure h⟩))) htake)
    | exact wpAny_bind (wpAny_bind (m := Builtin.Tuple.tupleExact _) (wpAny_newObj_type (wpAny_pure (wpAny_pure ⟨_, rfl, wpAny_pure h⟩)) htake))
    | exact wpAny_bind (wpAny_bind (m := Builtin.Tuple.tupleExact _) (wpAny_newObj_type (wpAny_pure ⟨_, rfl, wpAny_pure h⟩) htake))
end
section
variable {X : Cx}
def tRevT (K : PySem.W.Frag) (te : TE) : TE := fun σ H Q => te σ H fun x H1 => ∃ a xs, x = .ref a ∧ SqT K H1 a xs ∧ ∀ p, H1 p = none → Q (.ref p) (upd H1 p (.tup xs.reverse))
theorem pe_revT {e : Expr} {te : TE} {k : Nat} {p1 p2 p3 pos : Pos} (he : PE X e te) : PE X (.Subscript e (.Slice none none (some (.UnaryOp .USub (.Constant (.int 1) k p1) p2)) p3) pos) (tRevT X.K te) := by
  refine ⟨fun pins s σ H Q I h => ?_⟩
  refine Subscript_ (thn (he.run pins s σ H _ I h) fun v s1 ⟨x, H1, I1, r1, q1⟩ => ?_)
  obtain ⟨a, xs, ex, hx, q⟩ := q1
  subst ex
  cases r1
  have hst : PO X (some (.UnaryOp .USub (.Constant (.int 1) k p1) p2)) (tPart (tUn (rU fun i => .int (-i)) (tC (.int 1)))) := po_some (pe_un un_neg pe_int)
  refine wpAny_Slice (thn (po_none.run pins s1 σ H1 (fun o H2 => o = none ∧ H2 = H1) I1 ⟨rfl, rfl⟩) fun vl s2 ⟨l, H2, I2, pl, el, e2⟩ => ?_)
  subst el e2
  refine thn (po_none.run pins s2 σ H2 (fun o H3 => o = none ∧ H3 = H2) I2 ⟨rfl, rfl⟩) fun vu s3 ⟨u, H3, I3, pu, eu, e3⟩ => ?_
  subst eu e3
  refine thn (hst.run pins s3 σ H3 (fun o H4 => o = some (-1) ∧ H4 = H3) I3 ⟨1, rfl, -1, rfl, rfl, rfl⟩) fun vs s4 ⟨o, H4, I4, ps, eo, e4⟩ => ?_
  subst eo e4
  have I5 : Inv X pins σ H4 { s4 with heap := s4.heap.push { cls := .type "slice", data := .fields #[vl, vu, vs] } } := I4.kept (t' := s4.toks) fun b ob q => Heap.get?_push_of_some _ q
  obtain ⟨its, r, ht, hz⟩ := I5.tuple hx
  have hlen := r.length
  show wpAny (model X.prog X.w) X.A (subscriptTail e (.Slice none none (some (.UnaryOp .USub (.Constant (.int 1) k p1) p2)) p3) (.ref a) (.ref s4.heap.objs.size)) (EP X pins σ Q) X.xe { s4 with heap := s4.heap.push { cls := .type "slice", data := .fields #[vl, vu, vs] } }
  refine tail_any (ops := [.ref a, .ref s4.heap.objs.size]) ht.typeIs (PyProof.Rows.slot_tuple_getitem.lookup) ?_ (by with_unfolding_all rfl)
  refine getItem_tuple_rev ht (Heap.IsSliceOf.new _ vl vu vs) pl pu ps ?_ (by rw [List.size_toArray]; omega)
  refine ⟨.ref _, _, I5.laid (t' := s4.toks) (o := .tup xs.reverse) (fun b ob q => Heap.get?_push_of_some _ q) (Nat.le_refl _) ?_, rfl, q _ (I5.hok.fresh (Nat.le_refl _))⟩
  exact ⟨by rw [List.length_reverse]; exact hz, _, r.reverse, IsTup.new _ _⟩
end
end Vd

namespace K24
open PySem PySem.Spec PyProof.Rows L2 Vd Evl
section
variable {P : Program} {w : World} {K : PySem.W.Frag} {mg : Str → Option Value} {base : Heap}
/-! ### the law's way home -/
abbrev sLWay : Stmt := topS 31
abbrev lwayN : List Str := ["hall", "name", "found", "at", "belt"]
theorem scLWay : FnScope lwayN ["hall", "name"] (defScope sLWay) := ⟨rfl, rfl, rfl, by decide +kernel, rfl, by decide +kernel, by decide +kernel⟩
theorem ok_lway {f : Addr} {fd : FuncData} (F : At K mg "_law_way_home" sLWay ["hall", "name"] f fd) (me : mg "enumerate" = none) : FnOk P w K mg base CX0 1 f fd ["hall", "name"] (spWay K) := by
  refine F.fn.ok scLWay (fun vs H Q E h => ?_) (fun cdv A outer s H vs Q E hr h => ?_)
  · obtain ⟨r, pm, pb, mv, bv, h, x, p, rfl, _⟩ := h
    rfl
  · obtain ⟨r, pm, pb, mv, bv, h, x, p, rfl, at_h, seen, tree, mx, home, fin⟩ := h
    have nd := scLWay.nd
    refine ⟨_, pss_cons (ps_set (i := 2) nd rfl (Or.inl rfl) (pe_lst pa_nil))
      (pss_cons (ps_while PassesOwn.never (pt_cmpR op_ne (pv 1) (pe_ix ix_tup (pv 0) pe_int (fun _ _ => rfl)) (nomark _))
        (pss_cons (ps_expr (pe_bm PySem.F.plainAttrs_list PySem.F.slot_list_append PySem.F.type_list_append mt_append (pv 2) (pa_cons (pe_ix ix_list (pe_lc (own := [("at", 3), ("belt", 4)]) (g := gTup K 2 (gCons (gName 3) (gCons (gName 4) gNil))) rfl nd
          (pi_enumT (by rfl) me (pa_cons (pe_ix ix_tup (pv 0) pe_int (fun _ _ => rfl)) pa_nil)) (blkOk_by (N := lwayN) (sc := defScope sLWay) (by decide +kernel))
          (fun _ _ _ _ _ => pg_tup rfl (pgs_cons (pg_name (i := 3) nd rfl (Or.inl rfl)) (pgs_cons (pg_name (i := 4) nd rfl (Or.inl rfl)) pgs_nil))) (fun _ _ _ _ _ => pts_one (pt_cmpR op_eq (pe_ix (r := rIxT K) ix_tup (pv 4) pe_int (fun _ _ => rfl)) (pv 1) (nomark _))) (fun _ _ _ _ _ => pv 3)) pe_int (fun _ _ => rfl)) pa_nil)))
        (pss_one (ps_set (i := 1) nd rfl (Or.inr rfl) (pe_ix ix_tup (pe_ix ix_tup (pe_ix ix_tup (pv 0) pe_int (fun _ _ => rfl)) (pe_ix ix_list (pv 2) (pe_un un_neg pe_int) (fun _ _ => rfl)) (fun _ _ => rfl)) pe_int (fun _ _ => rfl))))))
      (pss_one (ps_ret (pv 2)))), ?_⟩
    refine ⟨len_line (by show 0 ≤ 100000; decide), fun q nq => ?_⟩
    have s0 := same_new (o := .lst []) nq
    refine ⟨fun k σ' G => ∃ (y : Str) (front back : List Nat), σ' = ([some (.ref r), some (.str y), some (.ref q), none, none] : L2.St) ∧ Same H G ∧ G q = some (.lst (front.map fun j => V.int (j : Nat))) ∧ Home h y back ∧ front ++ back = p ∧ back.length = k,
      ⟨p.length, x, [], p, rfl, s0, upd_same, home, rfl, rfl⟩, ?_⟩
    rintro k _ G1 ⟨y, front, back, rfl, s2, at2, hy, app, rfl⟩
    have at_2 := at_h.up s2
    have lenp := home.short seen
    refine ⟨_, rfl, _, rfl, r, _, 2, _, rfl, rfl, at_2.r, atI_nat (j := 2) rfl, rfl, _, rfl, ?_⟩
    cases hy with
    | done =>
      rw [List.append_nil] at app
      subst app
      rw [decide_eq_true (rfl : V.str h.fl = V.str h.fl)]
      exact iteF ⟨_, rfl, fin G1 q s2 nq at2⟩
    | @step _ j m back n f e st hm =>
      have mm : m ∈ h.bs := List.mem_of_getElem? e
      have lt : j < h.bs.length := (List.getElem?_eq_some_iff.mp e).1
      rw [decide_eq_false (fun z : V.str y = V.str h.fl => n (by injection z))]
      refine iteT ⟨fun σ' G => ∃ (y : Str) (front back' : List Nat), σ' = ([some (.ref r), some (.str y), some (.ref q), none, none] : L2.St) ∧ Same H G ∧ G q = some (.lst (front.map fun j => V.int (j : Nat))) ∧ Home h y back' ∧ front ++ back' = p ∧ back'.length = back.length,
        fun σ' H' hN => ⟨back.length, by show back.length < back.length + 1; omega, hN⟩, ?_⟩
      have lenf : front.length ≤ 9 := by
        have := congrArg List.length app
        rw [List.length_append] at this
        omega
      refine ⟨_, rfl, .inl ⟨rfl, _, SqL.of at2⟩, ?_⟩
      refine ⟨_, rfl, r, _, 1, _, rfl, rfl, at_2.r, atI_nat (j := 1) rfl, pb, bv, rfl, at_2.bl, fun D nD => ?_⟩
      have D0 : H D = none := s2.free nD
      have qD : q ≠ D := ne_of_none at2 nD
      refine lc_it (walk_enumT (K := K) (a := pb) (xs := bv)) (fun i G' => Same G1 G' ∧ G' D = some (.lst ((fromL h.bs y i).map fun j => V.int (j : Nat)))) ⟨same_new nD, upd_same⟩ (fun i G' _ ⟨s', _⟩ => sqt_up s' at_2.bl) ?_ ?_
      · rintro i v G3 G4 lti ⟨s3, at_D⟩ ⟨T, a, c, rfl, nT, rfl, ea, ec⟩
        cases ea
        obtain ⟨m', t, em, rfl, sqt⟩ := belt_at i c at_2.bd ec
        have s4 := same_set (o := .tup [.int (i : Nat), .ref t]) s3 (s3.free nT)
        have DT : D ≠ T := ne_of_none at_D nT
        have at_D2 : upd G3 T (.tup [.int (i : Nat), .ref t]) D = some (.lst ((fromL h.bs y i).map fun j => V.int (j : Nat))) := by
          rw [upd_ne DT]
          exact at_D
        refine ⟨T, _, rfl, .inl (.inl upd_same), rfl, _, _, rfl, _, _, rfl, rfl, rfl, ?_⟩
        refine ⟨_, rfl, t, _, 0, _, rfl, rfl, sqt_up s4 sqt, rfl, _, rfl, rfl, _, rfl, ite2 (fun c1 => ?_) (fun c1 => ?_)⟩
        · have e1 : m'.1 = y := by
            have := of_decide_eq_true c1
            injection this
          refine ⟨_, rfl, _, at_D2, small1000 ?_, same_set s4 nD, ?_⟩
          · rw [List.length_map]
            have := fromL_len (bs := h.bs) (x := y) (i := i)
            have := at_h.blen
            have := seen.fewB
            omega
          · rw [upd_same, fromL_succ em, if_pos e1, intsV_snoc]
        · have e1 : ¬ m'.1 = y := fun z => c1 (decide_eq_true (by rw [z]))
          rw [fromL_succ em, if_neg e1]
          exact ⟨s4, at_D2⟩
      · rintro G3 ⟨s3, at_D⟩
        rw [at_h.blen] at at_D
        unfold firstL at f
        cases ef : fromL h.bs y h.bs.length with
        | nil =>
          rw [ef] at f
          cases f
        | cons j' l =>
          rw [ef] at f at_D
          have ej : j' = j := by injection f
          subst ej
          have at3 := s3 _ _ at2
          refine ⟨D, _, 0, .int (j' : Nat), rfl, rfl, SqL.of at_D, atI_nat (j := 0) rfl, ?_⟩
          refine ⟨q, _, .int (j' : Nat), rfl, rfl, at3, small1000 (by rw [List.length_map]; omega), ?_⟩
          have s5 : Same H (upd G3 q (.lst ((front.map fun j => V.int (j : Nat)) ++ [.int (j' : Nat)]))) := same_set (s2.trans s3) nq
          have at_5 := at_h.up s5
          obtain ⟨v, hv⟩ : ∃ v, bv[j']? = some v := by
            rw [← at_h.blen] at lt
            exact ⟨_, List.getElem?_eq_getElem lt⟩
          obtain ⟨m', t, em, rfl, sqt⟩ := belt_at j' v at_5.bd hv
          have em' : m' = m := by
            rw [e] at em
            injection em with z
            exact z.symm
          subst em'
          refine ⟨_, rfl, r, _, 1, _, rfl, rfl, at_5.r, atI_nat (j := 1) rfl, _, rfl, _, rfl, q, _, -1, _, rfl, rfl, SqL.of upd_same, atI_last _ _, pb, _, (j' : Nat), _, rfl, rfl, at_5.bl, atI_nat hv, t, _, 1, _, rfl, rfl, sqt, atI_nat (j := 1) rfl, ?_⟩
          refine ⟨m'.2.1, front ++ [j'], back, rfl, s5, ?_, hm, by rw [List.append_assoc]; exact app, rfl⟩
          rw [← intsV_snoc]
          exact upd_same
end
end K24

namespace K24
open PySem PySem.Spec PyProof.Rows L2 Vd Evl
def backsH (h : Hall) (x : Str) : Int := ((pursesH h x).map (·.2)).sum
def backH (h : Hall) (p : List Nat) : Int := (((wayH h p).drop 1).map (backsH h)).sum
def flatB (h : Hall) (ys : List Str) : List Int := ys.flatMap fun y => (pursesH h y).map (·.2)
theorem flatB_sum (h : Hall) : ∀ ys : List Str, (flatB h ys).sum = (ys.map (backsH h)).sum
  | [] => rfl
  | y :: ys => by
    have ih := flatB_sum h ys
    unfold flatB at ih ⊢
    rw [List.flatMap_cons, List.sum_append, ih, List.map_cons, List.sum_cons]
    rfl
theorem Seen.pmem {h : Hall} (s : Seen h) {x : Str} (mx : x ∈ namesH h) : ∃ m ∈ h.ms, m.1 = x ∧ pursesH h x = m.2.2 := by
  obtain ⟨m, mm, e⟩ := List.mem_map.mp mx
  exact ⟨m, mm, e, s.purses mm e⟩
theorem Seen.plen {h : Hall} (s : Seen h) {x : Str} (mx : x ∈ namesH h) : (pursesH h x).length ≤ 2 := by
  obtain ⟨m, mm, e, ep⟩ := s.pmem mx
  rw [ep]
  exact (s.ms m mm).1
theorem flatB_len {h : Hall} (s : Seen h) : ∀ ys : List Str, (∀ y ∈ ys, y ∈ namesH h) → (flatB h ys).length ≤ 2 * ys.length
  | [], _ => Nat.le_refl _
  | y :: ys, all => by
    have ih := flatB_len s ys fun z m => all z (.tail _ m)
    have := s.plen (all y (.head _))
    unfold flatB at ih ⊢
    rw [List.flatMap_cons, List.length_append, List.length_map, List.length_cons]
    omega
theorem cut_drop1 (xs : List V) : cutV xs (some 1) none = xs.drop 1 := by
  cases xs with
  | nil => rfl
  | cons x xs => exact cut_rest x xs
/-- what is walked and where it stands, for [1:] of a tuple -/
theorem slA_drop1 {K : PySem.W.Frag} {a : Addr} {xs : List V} {H : Hp} {Q : VK} (sq : SqT K H a xs) (q : ∀ p H', Same H H' → SqT K H' p (xs.drop 1) → Q (.ref p) H') : rSlA K (.ref a) (some 1) none H Q := by
  refine ⟨a, xs, rfl, sq, fun w => ?_, fun _ p np => ?_⟩
  · refine q a H (Same.refl H) ?_
    cases xs with
    | nil => exact sq
    | cons x xs =>
      have e1 : HT.sIx (x :: xs).length 0 (some 1) = 1 := by
        show (if (1 : Int) < 0 then (1 + ((x :: xs).length : Int)).toNat else min (1 : Int).toNat (x :: xs).length) = 1
        rw [if_neg (by decide), List.length_cons]
        have : ((1 : Int).toNat) = 1 := rfl
        omega
      rw [e1] at w
      exact absurd w.1 (by decide)
  · rw [cut_drop1]
    exact q p _ (same_new np) (.inl (.inl upd_same))
/-- all stays but lists -/
def OffL (F F' : Hp) : Prop := ∀ p o, F p = some o → (∀ xs, o ≠ .lst xs) → F' p = some o
theorem OffL.t {K : PySem.W.Frag} {F F' : Hp} {a : Addr} {xs : List V} (s : OffL F F') (h : SqT K F a xs) : SqT K F' a xs := by
  rcases h with (h | ⟨o, h⟩) | h
  · exact .inl (.inl (s _ _ h fun xs z => by cases z))
  · exact .inl (.inr ⟨o, s _ _ h fun xs z => by cases z⟩)
  · exact .inr h
theorem OffL.put {F F' : Hp} {D : Addr} {l l' : List V} (s : OffL F F') (e : F' D = some (.lst l)) : OffL F (upd F' D (.lst l')) := fun p o h no => by
  have h' := s p o h no
  have ne : p ≠ D := fun z => by
    rw [z, e] at h'
    injection h' with h'
    exact no l h'.symm
  rw [upd_ne ne]
  exact h'
section
variable {P : Program} {w : World} {K : PySem.W.Frag} {mg : Str → Option Value} {base : Heap}
/-- where a belt of a way stands -/
theorem way_belt {H : Hp} {r pm pb : Addr} {mv bv : List V} {h : Hall} {x : Str} {p : List Nat} {j : Nat} (seen : Seen h) (at_h : HallIn K H r h pm pb mv bv) (home : Home h x p) (mj : j ∈ p) :
    ∃ (m : Belt) (t : Addr), h.bs[j]? = some m ∧ bv[j]? = some (.ref t) ∧ SqT K H t [.str m.1, .str m.2.1, .int m.2.2.1, .int m.2.2.2] ∧ m ∈ h.bs := by
  obtain ⟨m, e⟩ := home.small seen j mj
  have lt : j < h.bs.length := (List.getElem?_eq_some_iff.mp e).1
  obtain ⟨v, hv⟩ : ∃ v, bv[j]? = some v := by
    rw [← at_h.blen] at lt
    exact ⟨_, List.getElem?_eq_getElem lt⟩
  obtain ⟨m', t, em, rfl, sqt⟩ := belt_at j v at_h.bd hv
  exact ⟨m', t, em, hv, sqt, List.mem_of_getElem? em⟩
/-! ### the way home -/
abbrev sWH : Stmt := topS 14
abbrev whN : List Str := ["hall", "name", "belt"]
theorem scWH : FnScope whN ["hall", "name"] (defScope sWH) := ⟨rfl, rfl, rfl, by decide +kernel, rfl, by decide +kernel, by decide +kernel⟩
def spWH (K : PySem.W.Frag) : Sp := fun vs H Q _ => ∃ (r pm pb : Addr) (mv bv : List V) (h : Hall) (x : Str) (p : List Nat), vs = [.ref r, .str x] ∧ HallIn K H r h pm pb mv bv ∧ Seen h ∧ treeH h ∧ x ∈ namesH h ∧ Home h x p ∧
  ∀ H' q, Same H H' → H q = none → H' q = some (.tup ((wayH h p).map V.str)) → Q (.ref q) H'
theorem ok_wh {f fS fH fF fC fN : Addr} {fd fdS fdH fdF fdC fdN : FuncData} (F : At K mg "way_home" sWH ["hall", "name"] f fd) (Bs : At K mg "belts_home" sBsH ["hall", "name"] fS fdS) (Ho : At K mg "belt_home" sBH ["hall", "name"] fH fdH) (B : At K mg "belts_from" sFrom ["hall", "name"] fF fdF)
    (C : At K mg "check_name" sChk ["hall", "name"] fC fdC) (N : At K mg "names_of" sNof ["hall"] fN fdN) (mt : mg "tuple" = none) (me : mg "enumerate" = none) : FnOk P w K mg base CX0 6 f fd ["hall", "name"] (spWH K) := by
  have GS : FnOk P w K mg base CX0 5 fS fdS ["hall", "name"] (spWay K) := ok_bsh Bs Ho B C N mt me
  have bt : bootBuiltins "tuple" = some (.type "tuple") := by decide +kernel
  refine F.fn.ok scWH (fun vs H Q E h => ?_) (fun cdv A outer s H vs Q E hr h => ?_)
  · obtain ⟨r, pm, pb, mv, bv, h, x, p, rfl, _⟩ := h
    rfl
  · obtain ⟨r, pm, pb, mv, bv, h, x, p, rfl, at_h, seen, tree, mx, home, fin⟩ := h
    have nd := scWH.nd
    have short := home.short seen
    refine ⟨_, pss_one (ps_ret (pe_callTy call_tuple_of (by rfl) mt bt (pa_cons (pe_lc (own := [("belt", 2)]) (g := gName 2) (tt := tYes) rfl nd (pi_list (pe_call GS hr (by rfl) Bs.g Bs.fn.kp Bs.b .nil pass0 (pa_cons (pv 0) (pa_cons (pv 1) pa_nil)))) (blkOk_by (N := whN) (sc := defScope sWH) (by decide +kernel))
      (fun _ _ _ _ _ => pg_name (i := 2) nd rfl (Or.inl rfl)) (fun _ _ _ _ _ => pts_nil)
      (fun _ _ _ _ _ => pe_ix (r := rIxT K) ix_tup (pe_ix (r := rIxT K) ix_tup (pe_ix (r := rIxT K) ix_tup (pv 0) pe_int (fun _ _ => rfl)) (pv 2) (fun _ _ => rfl)) pe_int (fun _ _ => rfl))) pa_nil))), ?_⟩
    refine ⟨_, rfl, _, rfl, r, pm, pb, mv, bv, h, x, p, rfl, at_h, seen, tree, mx, home, fun G q s nq at_q => ?_⟩
    have at_g := at_h.up s
    refine ⟨q, rfl, ⟨_, SqL.of at_q⟩, fun D nD => ?_⟩
    refine lc_list (K := K) (a := q) (xs := p.map fun j => V.int (j : Nat)) (fun i G' => Same G G' ∧ G' D = some (.lst (((wayH h p).take i).map V.str))) ⟨same_new nD, upd_same⟩ (fun i G' _ ⟨s', _⟩ => SqL.of (s' _ _ at_q)) ?_ ?_
    · rintro i v G1 at_i ⟨s1, at_D⟩
      rw [List.getElem?_map] at at_i
      obtain ⟨j, ej, rfl⟩ := Option.map_eq_some_iff.mp at_i
      obtain ⟨m, t, em, hv, sqt, mm⟩ := way_belt seen (at_g.up s1) home (List.mem_of_getElem? ej)
      have at_1 := at_g.up s1
      have e1 : (wayH h p).take (i + 1) = (wayH h p).take i ++ [m.1] := by
        unfold wayH
        rw [List.take_succ, List.getElem?_map, ej, ← startAt_eq em]
        rfl
      refine ⟨rfl, _, rfl, r, _, 1, _, rfl, rfl, at_1.r, atI_nat (j := 1) rfl, _, rfl, pb, _, (j : Nat), _, rfl, rfl, at_1.bl, atI_nat hv, t, _, 0, _, rfl, rfl, sqt, atI_nat (j := 0) rfl, _, at_D, small1000 ?_, same_set s1 nD, ?_⟩
      · unfold wayH
        rw [List.length_map, List.length_take, List.length_map]
        omega
      · rw [upd_same, e1, List.map_append]
        rfl
    · rintro G1 ⟨s1, at_D⟩
      rw [List.take_of_length_le (by unfold wayH; rw [List.length_map, List.length_map]; exact Nat.le_refl _)] at at_D
      refine ⟨D, _, rfl, .inl ⟨SqL.of at_D, fun l nl => ?_⟩⟩
      exact fin _ l (s.trans (same_set s1 (s1.free nl))) (s.free (s1.free nl)) upd_same
/-! ### the backs home -/
abbrev sBk : Stmt := topS 15
abbrev bkN : List Str := ["hall", "name", "one", "_", "back"]
theorem scBk : FnScope bkN ["hall", "name"] (defScope sBk) := ⟨rfl, rfl, rfl, by decide +kernel, rfl, by decide +kernel, by decide +kernel⟩
def spBk (K : PySem.W.Frag) : Sp := fun vs H Q _ => ∃ (r pm pb : Addr) (mv bv : List V) (h : Hall) (x : Str) (p : List Nat), vs = [.ref r, .str x] ∧ HallIn K H r h pm pb mv bv ∧ Seen h ∧ treeH h ∧ x ∈ namesH h ∧ Home h x p ∧
  ∀ H', Same H H' → Q (.int (backH h p)) H'
theorem ok_bk {f fW fS fH fF fC fN fP fM : Addr} {fd fdW fdS fdH fdF fdC fdN fdP fdM : FuncData} (F : At K mg "back_home" sBk ["hall", "name"] f fd) (W : At K mg "way_home" sWH ["hall", "name"] fW fdW) (Bs : At K mg "belts_home" sBsH ["hall", "name"] fS fdS) (Ho : At K mg "belt_home" sBH ["hall", "name"] fH fdH) (B : At K mg "belts_from" sFrom ["hall", "name"] fF fdF)
    (C : At K mg "check_name" sChk ["hall", "name"] fC fdC) (N : At K mg "names_of" sNof ["hall"] fN fdN) (Po : At K mg "purses_of" sPof ["hall", "name"] fP fdP) (Mo : At K mg "machine_of" sMof ["hall", "name"] fM fdM)
    (mt : mg "tuple" = none) (me : mg "enumerate" = none) (msum : mg "sum" = none) : FnOk P w K mg base CX0 7 f fd ["hall", "name"] (spBk K) := by
  have GW : FnOk P w K mg base CX0 6 fW fdW ["hall", "name"] (spWH K) := ok_wh W Bs Ho B C N mt me
  have GP : FnOk P w K mg base CX0 2 fP fdP ["hall", "name"] (spPof K) := ok_pof Po Mo
  have bsum : bootBuiltins "sum" = some (.builtin "sum") := by decide +kernel
  refine F.fn.ok scBk (fun vs H Q E h => ?_) (fun cdv A outer s H vs Q E hr h => ?_)
  · obtain ⟨r, pm, pb, mv, bv, h, x, p, rfl, _⟩ := h
    rfl
  · obtain ⟨r, pm, pb, mv, bv, h, x, p, rfl, at_h, seen, tree, mx, home, fin⟩ := h
    have nd := scBk.nd
    have short := home.short seen
    have hr2 : Room 2 _ := hr.mono (by decide)
    refine ⟨_, pss_one (ps_ret (pe_callB (cr_sum rfl) (by rfl) msum bsum (pa_cons (pe_lc2 (own := [("one", 2), ("_", 3), ("back", 4)]) (vs1 := [3, 4]) (g := gName 2) (tt := tYes) (wi1 := iTup K (tCall (spPof K) [] E0 (tCons (tVar 0) (tCons (tVar 2) tNil)))) (g1 := gTup K 2 (gCons (gName 3) (gCons (gName 4) gNil))) (tt1 := tYes) rfl nd
      (pi_tup (pe_slice sl_tupA (pe_call GW hr (by rfl) W.g W.fn.kp W.b .nil pass0 (pa_cons (pv 0) (pa_cons (pv 1) pa_nil))) (po_some pe_int) po_none)) (blkOk_by (N := bkN) (sc := defScope sBk) (by decide +kernel)) (by decide)
      (fun _ _ _ _ _ => pg_name (i := 2) nd rfl (Or.inl rfl)) (fun _ _ _ _ _ => pts_nil)
      (fun _ _ _ _ _ => pi_tup (pe_call GP hr2 (by rfl) Po.g Po.fn.kp Po.b .nil pass0 (pa_cons (pv 0) (pa_cons (pv 2) pa_nil))))
      (fun _ _ _ _ _ => pg_tup rfl (pgs_cons (pg_name (i := 3) nd rfl (Or.inl rfl)) (pgs_cons (pg_name (i := 4) nd rfl (Or.inl rfl)) pgs_nil))) (fun _ _ _ _ _ => pts_nil)
      (fun _ _ _ _ _ => pv 4)) pa_nil))), ?_⟩
    refine ⟨_, rfl, _, rfl, r, pm, pb, mv, bv, h, x, p, rfl, at_h, seen, tree, mx, home, fun G q s nq at_q => ?_⟩
    have allN : ∀ y ∈ (wayH h p).drop 1, y ∈ namesH h := fun y my => home.names seen y (List.mem_of_mem_drop my)
    have ylen : ((wayH h p).drop 1).length ≤ 9 := by
      rw [List.length_drop]
      unfold wayH
      rw [List.length_map]
      omega
    have eback : (flatB h ((wayH h p).drop 1)).sum = backH h p := flatB_sum h _
    refine ⟨1, rfl, ?_⟩
    dsimp only [tNoPart]
    refine slA_drop1 (K := K) (xs := (wayH h p).map V.str) (.inl (.inl at_q)) fun p' G2 s2 sq2 => ⟨p', rfl, ⟨_, sq2⟩, fun D nD => ?_⟩
    rw [← List.map_drop] at sq2
    generalize (wayH h p).drop 1 = ys at *
    have sg : Same H G2 := s.trans s2
    have at_2 := at_h.up sg
    refine ⟨fun i m G' => m = ys.length - i ∧ i ≤ ys.length ∧ Same G2 G' ∧ G' D = some (.lst ((flatB h (ys.take i)).map V.int)), ⟨ys.length, rfl, Nat.zero_le _, same_new nD, upd_same⟩, ?_⟩
    rintro i m G3 ⟨rfl, hi, s3, at_D⟩
    by_cases lt : i < ys.length
    · refine .inr ⟨⟨ys.map V.str, _, sqt_up s3 sq2, List.getElem?_eq_getElem (by rw [List.length_map]; exact lt)⟩, fun G' => Same G2 G' ∧ G' D = some (.lst ((flatB h (ys.take (i + 1))).map V.int)),
        fun G' hN => ⟨ys.length - (i + 1), by omega, rfl, lt, hN.1, hN.2⟩, ?_⟩
      rintro v G4 ⟨rfl, hv⟩
      have hv' := hv _ (sqt_up s3 sq2)
      rw [List.getElem?_map] at hv'
      obtain ⟨y, ey, rfl⟩ := Option.map_eq_some_iff.mp hv'
      have my := allN y (List.mem_of_getElem? ey)
      have tk : flatB h (ys.take (i + 1)) = flatB h (ys.take i) ++ (pursesH h y).map (·.2) := by
        unfold flatB
        rw [List.take_succ, ey]
        show (ys.take i ++ [y]).flatMap _ = _
        rw [List.flatMap_append]
        simp
      have pl := seen.plen my
      have fl := flatB_len seen (ys.take i) fun z mz => allN z (List.mem_of_mem_take mz)
      rw [List.length_take] at fl
      refine ⟨rfl, ?_⟩
      refine ⟨_, rfl, _, rfl, r, pm, pb, mv, bv, h, y, rfl, at_2.up s3, seen, my, fun G5 a pv s5 sq5 d5 => ⟨a, rfl, ⟨_, sq5⟩, ?_⟩⟩
      have plen : pv.length = (pursesH h y).length := by rw [dats_len d5, List.length_map]
      have at5 := s5 _ _ at_D
      refine ⟨fun j k G' => k = pv.length - j ∧ j ≤ pv.length ∧ OffL G5 G' ∧ Same G2 G' ∧ G' D = some (.lst ((flatB h (ys.take i) ++ ((pursesH h y).take j).map (·.2)).map V.int)), ⟨pv.length, rfl, Nat.zero_le _, fun b o eb _ => eb, s3.trans s5, by simpa using at5⟩, ?_⟩
      rintro j k G6 ⟨rfl, hj, s6, s7, at6⟩
      have sq6 := s6.t sq5
      have d6 : DatAll K G6 pv ((pursesH h y).map pairD) := strips s6 (by simpa [pursesD, noList] using purses_noList (pursesH h y)) d5
      by_cases ltj : j < pv.length
      · refine .inr ⟨⟨pv, _, sq6, List.getElem?_eq_getElem ltj⟩, fun G' => OffL G5 G' ∧ Same G2 G' ∧ G' D = some (.lst ((flatB h (ys.take i) ++ ((pursesH h y).take (j + 1)).map (·.2)).map V.int)),
          fun G' hN => ⟨pv.length - (j + 1), by omega, rfl, ltj, hN.1, hN.2.1, hN.2.2⟩, ?_⟩
        rintro v G7 ⟨rfl, hv⟩
        obtain ⟨x2, t, e2, rfl, sqt⟩ := pair_at j v d6 (hv _ sq6)
        refine ⟨t, _, rfl, sqt, rfl, _, _, rfl, _, _, rfl, rfl, rfl, ?_⟩
        refine ⟨_, rfl, _, at6, small1000 ?_, s6.put at6, same_set s7 nD, ?_⟩
        · rw [List.length_map, List.length_append, List.length_map, List.length_take]
          omega
        · rw [upd_same, List.take_succ, e2]
          simp
      · have e : j = pv.length := by omega
        subst e
        refine .inl ⟨⟨pv, sq6, Nat.le_refl _⟩, s7, ?_⟩
        rw [at6, tk, List.take_of_length_le (l := pursesH h y) (by omega)]
    · have e : i = ys.length := by omega
      subst e
      rw [List.take_length] at at_D
      refine .inl ⟨⟨ys.map V.str, sqt_up s3 sq2, by rw [List.length_map]; exact Nat.le_refl _⟩, D, _, rfl, SqL.of at_D, ?_⟩
      rw [eback]
      exact fin G3 (sg.trans s3)
end
end K24

namespace K24
open PySem PySem.Spec PyProof.Rows L2 Vd Evl
/-! ### there and back -/
def stepD (u : Str) (j : Nat) : PyData := .tuple [.str u, .int (j : Nat)]
def thereD (h : Hall) (p : List Nat) : PyData := .tuple [.str h.fl, .tuple (p.reverse.map (stepD "up") ++ p.map (stepD "down"))]
theorem steps_noList (u : Str) (p : List Nat) : noLists (p.map (stepD u)) = true := by
  induction p with
  | nil => rfl
  | cons j p ih =>
    show (noList (stepD u j) && noLists (p.map (stepD u))) = true
    rw [ih]
    rfl
section
variable {K : PySem.W.Frag}
theorem dats_snoc {H : Hp} : ∀ {vs : List V} {ds : List PyData} {v : V} {d : PyData}, DatAll K H vs ds → Dat K H v d → DatAll K H (vs ++ [v]) (ds ++ [d])
  | _, _, _, _, .nil, a => .cons a .nil
  | _, _, _, _, .cons x r, a => .cons x (dats_snoc r a)
theorem dats_app {H : Hp} : ∀ {vs : List V} {ds : List PyData} {ws : List V} {es : List PyData}, DatAll K H vs ds → DatAll K H ws es → DatAll K H (vs ++ ws) (ds ++ es)
  | _, _, _, _, .nil, a => a
  | _, _, _, _, .cons x r, a => .cons x (dats_app r a)
theorem lc_steps {a : Addr} {p : List Nat} {u : Str} {te : TE} {vs : List Nat} {k : Nat} {σ : L2.St} {H1 : Hp} {D : Addr} {Qd : Hp → Prop} (short : p.length ≤ 100) (sq : H1 a = some (.lst (p.map fun j => V.int (j : Nat)))) (nD : H1 D = none)
    (hw : ∀ v, wipe ((wipe σ vs).set k (some v)) vs = wipe σ vs)
    (hte : ∀ (j : Nat) (H' : Hp) (Q' : VK), (∀ T, H' T = none → Q' (.ref T) (upd H' T (.tup [.str u, .int (j : Nat)]))) → te ((wipe σ vs).set k (some (.int (j : Nat)))) H' Q')
    (hd : ∀ G vs, Same H1 G → G D = some (.lst vs) → vs.length = p.length → DatAll K G vs (p.map (stepD u)) → Qd G) :
    ∃ W : Nat → Nat → Hp → Prop, (∃ m, W 0 m (upd H1 D (.lst []))) ∧ ∀ i m H, W i m H →
      ((Itl K a).stop i H ∧ Qd H) ∨ ((Itl K a).go i H ∧ ∃ Nx : Hp → Prop, (∀ H', Nx H' → ∃ m', m' < m ∧ W (i + 1) m' H') ∧ ∀ x H', (Itl K a).yld i H x H' → gName k x (wipe σ vs) H' fun σ2 H2 => wipe σ2 vs = wipe σ vs ∧ tYes σ2 H2 fun b H3 =>
        if b = true then te σ2 H3 fun y H4 => ∃ acc, H4 D = some (.lst acc) ∧ acc.length < sizeLine ∧ Nx (upd H4 D (.lst (acc ++ [y]))) else Nx H3) := by
  refine lc_list (K := K) (a := a) (xs := p.map fun j => V.int (j : Nat)) (fun i G => Same H1 G ∧ ∃ ws, G D = some (.lst ws) ∧ ws.length = i ∧ DatAll K G ws ((p.take i).map (stepD u))) ⟨same_new nD, [], upd_same, rfl, .nil⟩ (fun i G _ ⟨s, _⟩ => SqL.of (s _ _ sq)) ?_ ?_
  · rintro i v G at_i ⟨s, ws, at_D, len, dats⟩
    rw [List.getElem?_map] at at_i
    obtain ⟨j, ej, rfl⟩ := Option.map_eq_some_iff.mp at_i
    have lt : i < p.length := (List.getElem?_eq_some_iff.mp ej).1
    refine ⟨hw _, hte j G _ fun T nT => ?_⟩
    have DT : D ≠ T := ne_of_none at_D nT
    have at_D2 : upd G T (.tup [.str u, .int (j : Nat)]) D = some (.lst ws) := by
      rw [upd_ne DT]
      exact at_D
    have e1 : (p.take (i + 1)).map (stepD u) = (p.take i).map (stepD u) ++ [stepD u j] := by
      rw [List.take_succ, ej, List.map_append]
      rfl
    have d1 : DatAll K (upd G T (.tup [.str u, .int (j : Nat)])) (ws ++ [.ref T]) ((p.take i).map (stepD u) ++ [stepD u j]) :=
      dats_snoc (DatAll.up (same_new nT) dats) (.tup (.inl (.inl upd_same)) (.cons (.str _) (.cons (.int _) .nil)))
    refine ⟨ws, at_D2, small1000 (by omega), same_set (same_set s (s.free nT)) nD, ws ++ [.ref T], upd_same, by rw [List.length_append, len]; rfl, ?_⟩
    rw [e1]
    refine strips (OffL.put (fun _ _ e _ => e) at_D2) ?_ d1
    rw [← e1]
    exact steps_noList u _
  · rintro G ⟨s, ws, at_D, len, dats⟩
    rw [List.take_of_length_le (by rw [List.length_map]; exact Nat.le_refl _)] at dats
    rw [List.length_map] at len
    exact hd G ws s at_D len dats
end
section
variable {P : Program} {w : World} {K : PySem.W.Frag} {mg : Str → Option Value} {base : Heap}
abbrev sTh : Stmt := topS 16
abbrev thN : List Str := ["hall", "name", "belts", "belt"]
theorem scTh : FnScope thN ["hall", "name"] (defScope sTh) := ⟨rfl, rfl, rfl, by decide +kernel, rfl, by decide +kernel, by decide +kernel⟩
def spTh (K : PySem.W.Frag) : Sp := fun vs H Q _ => ∃ (r pm pb : Addr) (mv bv : List V) (h : Hall) (x : Str) (p : List Nat), vs = [.ref r, .str x] ∧ HallIn K H r h pm pb mv bv ∧ Seen h ∧ treeH h ∧ x ∈ namesH h ∧ Home h x p ∧
  ∀ H' v, Same H H' → Dat K H' v (thereD h p) → Q v H'
theorem ok_th {f fS fH fF fC fN : Addr} {fd fdS fdH fdF fdC fdN : FuncData} (F : At K mg "there_and_back" sTh ["hall", "name"] f fd) (Bs : At K mg "belts_home" sBsH ["hall", "name"] fS fdS) (Ho : At K mg "belt_home" sBH ["hall", "name"] fH fdH) (B : At K mg "belts_from" sFrom ["hall", "name"] fF fdF)
    (C : At K mg "check_name" sChk ["hall", "name"] fC fdC) (N : At K mg "names_of" sNof ["hall"] fN fdN) (mt : mg "tuple" = none) (me : mg "enumerate" = none) : FnOk P w K mg base CX0 6 f fd ["hall", "name"] (spTh K) := by
  have GS : FnOk P w K mg base CX0 5 fS fdS ["hall", "name"] (spWay K) := ok_bsh Bs Ho B C N mt me
  have bt : bootBuiltins "tuple" = some (.type "tuple") := by decide +kernel
  refine F.fn.ok scTh (fun vs H Q E h => ?_) (fun cdv A outer s H vs Q E hr h => ?_)
  · obtain ⟨r, pm, pb, mv, bv, h, x, p, rfl, _⟩ := h
    rfl
  · obtain ⟨r, pm, pb, mv, bv, h, x, p, rfl, at_h, seen, tree, mx, home, fin⟩ := h
    have nd := scTh.nd
    have short := home.short seen
    refine ⟨_, pss_cons (ps_set (i := 2) nd rfl (Or.inl rfl) (pe_call GS hr (by rfl) Bs.g Bs.fn.kp Bs.b .nil pass0 (pa_cons (pv 0) (pa_cons (pv 1) pa_nil))))
      (pss_one (ps_ret (pe_tup (pa_cons (pe_ix ix_tup (pv 0) pe_int (fun _ _ => rfl)) (pa_cons (pe_callTy call_tuple_of (by rfl) mt bt (pa_cons (pe_op op_cat
        (pe_lc (own := [("belt", 3)]) (g := gName 3) (tt := tYes) rfl nd (pi_list (pe_revL (pv 2))) (blkOk_by (N := thN) (sc := defScope sTh) (by decide +kernel)) (fun _ _ _ _ _ => pg_name (i := 3) nd rfl (Or.inl rfl)) (fun _ _ _ _ _ => pts_nil) (fun _ _ _ _ _ => pe_tup (pa_cons pe_str (pa_cons (pv 3) pa_nil))))
        (pe_lc (own := [("belt", 3)]) (g := gName 3) (tt := tYes) rfl nd (pi_list (pv 2)) (blkOk_by (N := thN) (sc := defScope sTh) (by decide +kernel)) (fun _ _ _ _ _ => pg_name (i := 3) nd rfl (Or.inl rfl)) (fun _ _ _ _ _ => pts_nil) (fun _ _ _ _ _ => pe_tup (pa_cons pe_str (pa_cons (pv 3) pa_nil))))) pa_nil)) pa_nil))))), ?_⟩
    refine ⟨_, rfl, _, rfl, r, pm, pb, mv, bv, h, x, p, rfl, at_h, seen, tree, mx, home, fun G q s nq at_q => ?_⟩
    have at_g := at_h.up s
    refine ⟨_, rfl, r, _, 2, _, rfl, rfl, at_g.r, atI_nat (j := 2) rfl, ?_⟩
    refine ⟨_, rfl, q, _, rfl, SqL.of at_q, fun a na => ?_⟩
    have sa := same_new (o := .lst (p.map fun j => V.int (j : Nat)).reverse) na
    refine ⟨a, rfl, ⟨_, SqL.of upd_same⟩, fun D nD => ?_⟩
    refine lc_steps (K := K) (p := p.reverse) (u := "up") (by rw [List.length_reverse]; omega) (by rw [upd_same, List.map_reverse]) nD (fun _ => rfl) (fun j H' Q' q' => ⟨_, rfl, len_line (by show 2 ≤ 100000; decide), q'⟩) fun G2 ws s2 at_D len2 d2 => ?_
    have at_q2 := s2 _ _ (sa _ _ at_q)
    refine ⟨_, rfl, q, rfl, ⟨_, SqL.of at_q2⟩, fun D' nD' => ?_⟩
    refine lc_steps (K := K) (p := p) (u := "down") (by omega) at_q2 nD' (fun _ => rfl) (fun j H' Q' q' => ⟨_, rfl, len_line (by show 2 ≤ 100000; decide), q'⟩) fun G3 ws' s3 at_D' len3 d3 => ?_
    have at_D3 := s3 _ _ at_D
    rw [List.length_reverse] at len2
    refine ⟨D, D', _, _, rfl, rfl, at_D3, at_D', len_line (by omega), fun L nL => ?_⟩
    have s4 := same_new (o := .lst (ws ++ ws')) nL
    refine ⟨L, _, rfl, .inl ⟨SqL.of upd_same, fun T nT => ?_⟩⟩
    have s5 := same_new (o := .tup (ws ++ ws')) nT
    refine ⟨len_line (by show 2 ≤ 100000; decide), fun T2 nT2 => ?_⟩
    have s6 := same_new (o := .tup [.str h.fl, .ref T]) nT2
    refine fin _ _ ((((((s.trans sa).trans s2).trans s3).trans s4).trans s5).trans s6) ?_
    refine .tup (.inl (.inl upd_same)) (.cons (.str _) (.cons ?_ .nil))
    refine .tup (.inl (.inl (s6 _ _ upd_same))) (dats_app (DatAll.up (((s3.trans s4).trans s5).trans s6) d2) (DatAll.up ((s4.trans s5).trans s6) d3))
end
end K24

namespace K24
open PySem PySem.Spec PyProof.Rows L2 Vd Evl
section
variable {P : Program} {w : World} {K : PySem.W.Frag} {mg : Str → Option Value} {base : Heap}
/-! ### the law's sums -/
abbrev sLSum : Stmt := topS 32
abbrev lsumN : List Str := ["hall", "name", "purses", "size", "back"]
theorem scLSum : FnScope lsumN ["hall", "name"] (defScope sLSum) := ⟨rfl, rfl, rfl, by decide +kernel, rfl, by decide +kernel, by decide +kernel⟩
def spLSum (K : PySem.W.Frag) : Sp := fun vs H Q _ => ∃ (r pm pb : Addr) (mv bv : List V) (h : Hall) (x : Str), vs = [.ref r, .str x] ∧ HallIn K H r h pm pb mv bv ∧ Seen h ∧ x ∈ namesH h ∧
  ∀ H' q (z : Int), Same H H' → H q = none → H' q = some (.tup [.int z, .int (backsH h x)]) → Q (.ref q) H'
/-- some number of each purse -/
theorem lc_purse {f : Int × Int → Int} {a : Addr} {ps : List (Int × Int)} {pv : List V} {te : TE} {vs : List Nat} {σ : L2.St} {H1 : Hp} {D : Addr} {Qd : Hp → Prop} (short : ps.length ≤ 100) (sq : SqT K H1 a pv) (dt : DatAll K H1 pv (ps.map pairD)) (nD : H1 D = none)
    (hw : ∀ v v', wipe (((wipe σ vs).set 3 (some v)).set 4 (some v')) vs = wipe σ vs)
    (hte : ∀ (m : Int × Int) (H' : Hp) (Q' : VK), Q' (.int (f m)) H' → te (((wipe σ vs).set 3 (some (.int m.1))).set 4 (some (.int m.2))) H' Q')
    (hd : ∀ G, Same H1 G → G D = some (.lst ((ps.map f).map V.int)) → Qd G) :
    ∃ W : Nat → Nat → Hp → Prop, (∃ m, W 0 m (upd H1 D (.lst []))) ∧ ∀ i m H, W i m H →
      ((Itt K a).stop i H ∧ Qd H) ∨ ((Itt K a).go i H ∧ ∃ Nx : Hp → Prop, (∀ H', Nx H' → ∃ m', m' < m ∧ W (i + 1) m' H') ∧ ∀ x H', (Itt K a).yld i H x H' → (gTup K 2 (gCons (gName 3) (gCons (gName 4) gNil))) x (wipe σ vs) H' fun σ2 H2 => wipe σ2 vs = wipe σ vs ∧ tYes σ2 H2 fun b H3 =>
        if b = true then te σ2 H3 fun y H4 => ∃ acc, H4 D = some (.lst acc) ∧ acc.length < sizeLine ∧ Nx (upd H4 D (.lst (acc ++ [y]))) else Nx H3) := by
  have plen : pv.length = ps.length := by rw [dats_len dt, List.length_map]
  refine lc_tup (K := K) (a := a) (xs := pv) (fun i G => Same H1 G ∧ G D = some (.lst (((ps.take i).map f).map V.int))) ⟨same_new nD, upd_same⟩ (fun i G _ ⟨s, _⟩ => sqt_up s sq) ?_ ?_
  · rintro i v G at_i ⟨s, at_D⟩
    obtain ⟨m, t, em, rfl, sqt⟩ := pair_at i v dt at_i
    refine ⟨t, _, rfl, sqt_up s sqt, rfl, _, _, rfl, _, _, rfl, rfl, hw _ _, hte m G _ ⟨_, at_D, small1000 ?_, same_set s nD, ?_⟩⟩
    · rw [List.length_map, List.length_map, List.length_take]
      omega
    · rw [upd_same, List.take_succ, em, List.map_append, List.map_append]
      rfl
  · rintro G ⟨s, at_D⟩
    rw [plen, List.take_length] at at_D
    exact hd G s at_D
theorem ok_lsum {f fM : Addr} {fd fdM : FuncData} (F : At K mg "_law_sums" sLSum ["hall", "name"] f fd) (M : At K mg "_law_machine" sLMach ["hall", "name"] fM fdM) (msum : mg "sum" = none) : FnOk P w K mg base CX0 2 f fd ["hall", "name"] (spLSum K) := by
  have GM : FnOk P w K mg base CX0 1 fM fdM ["hall", "name"] (spMof K) := ok_lmach M
  have bsum : bootBuiltins "sum" = some (.builtin "sum") := by decide +kernel
  refine F.fn.ok scLSum (fun vs H Q E h => ?_) (fun cdv A outer s H vs Q E hr h => ?_)
  · obtain ⟨r, pm, pb, mv, bv, h, x, rfl, _⟩ := h
    rfl
  · obtain ⟨r, pm, pb, mv, bv, h, x, rfl, at_h, seen, mx, fin⟩ := h
    have nd := scLSum.nd
    refine ⟨_, pss_cons (ps_set (i := 2) nd rfl (Or.inl rfl) (pe_ix ix_tup (pe_call GM hr (by rfl) M.g M.fn.kp M.b .nil pass0 (pa_cons (pv 0) (pa_cons (pv 1) pa_nil))) pe_int (fun _ _ => rfl)))
      (pss_one (ps_ret (pe_tup (pa_cons (pe_callB (cr_sum rfl) (by rfl) msum bsum (pa_cons (pe_lc (own := [("size", 3), ("back", 4)]) (g := gTup K 2 (gCons (gName 3) (gCons (gName 4) gNil))) (tt := tYes) rfl nd (pi_tup (pv 2)) (blkOk_by (N := lsumN) (sc := defScope sLSum) (by decide +kernel))
          (fun _ _ _ _ _ => pg_tup rfl (pgs_cons (pg_name (i := 3) nd rfl (Or.inl rfl)) (pgs_cons (pg_name (i := 4) nd rfl (Or.inl rfl)) pgs_nil))) (fun _ _ _ _ _ => pts_nil) (fun _ _ _ _ _ => pv 3)) pa_nil))
        (pa_cons (pe_callB (cr_sum rfl) (by rfl) msum bsum (pa_cons (pe_lc (own := [("size", 3), ("back", 4)]) (g := gTup K 2 (gCons (gName 3) (gCons (gName 4) gNil))) (tt := tYes) rfl nd (pi_tup (pv 2)) (blkOk_by (N := lsumN) (sc := defScope sLSum) (by decide +kernel))
          (fun _ _ _ _ _ => pg_tup rfl (pgs_cons (pg_name (i := 3) nd rfl (Or.inl rfl)) (pgs_cons (pg_name (i := 4) nd rfl (Or.inl rfl)) pgs_nil))) (fun _ _ _ _ _ => pts_nil) (fun _ _ _ _ _ => pv 4)) pa_nil)) pa_nil))))), ?_⟩
    refine ⟨_, rfl, _, rfl, r, pm, pb, mv, bv, h, x, rfl, at_h, Nat.le_trans seen.few (by decide), mx, fun G v s is => ?_⟩
    obtain ⟨m, t, p, pv, rfl, mm, ex, s1, s2, d⟩ := is
    have short : m.2.2.length ≤ 100 := Nat.le_trans (seen.ms m mm).1 (by decide)
    refine ⟨t, _, 2, _, rfl, rfl, s1, rfl, ?_⟩
    refine ⟨_, rfl, p, rfl, ⟨_, s2⟩, fun D nD => ?_⟩
    refine lc_purse (f := (·.1)) (ps := m.2.2) (pv := pv) short s2 d nD (fun _ _ => rfl) (fun m' H' Q' q' => ⟨_, rfl, q'⟩) fun G1 sg1 at_D => ?_
    refine ⟨D, _, rfl, SqL.of at_D, ?_⟩
    have s2' := sqt_up sg1 s2
    refine ⟨_, rfl, p, rfl, ⟨_, s2'⟩, fun D' nD' => ?_⟩
    refine lc_purse (f := (·.2)) (ps := m.2.2) (pv := pv) short s2' (DatAll.up sg1 d) nD' (fun _ _ => rfl) (fun m' H' Q' q' => ⟨_, rfl, q'⟩) fun G2 sg2 at_D' => ?_
    refine ⟨D', _, rfl, SqL.of at_D', len_line (by show 2 ≤ 100000; decide), fun T nT => ?_⟩
    have e : ((m.2.2).map (·.2)).sum = backsH h x := by
      unfold backsH
      rw [seen.purses mm ex]
    rw [e]
    exact fin _ T _ (same_set ((s.trans sg1).trans sg2) (s.free (sg1.free (sg2.free nT)))) (s.free (sg1.free (sg2.free nT))) upd_same
/-! ### the law's backs home -/
abbrev sLBk : Stmt := topS 33
abbrev lbkN : List Str := ["hall", "name", "at"]
theorem scLBk : FnScope lbkN ["hall", "name"] (defScope sLBk) := ⟨rfl, rfl, rfl, by decide +kernel, rfl, by decide +kernel, by decide +kernel⟩
theorem backH_eq (h : Hall) (p : List Nat) : ((p.drop 1).map fun j => backsH h (startAt h j)).sum = backH h p := by
  unfold backH wayH
  rw [← List.map_drop, List.map_map]
  rfl
theorem ok_lbk {f fW fS fM : Addr} {fd fdW fdS fdM : FuncData} (F : At K mg "_law_back_home" sLBk ["hall", "name"] f fd) (W : At K mg "_law_way_home" sLWay ["hall", "name"] fW fdW) (Su : At K mg "_law_sums" sLSum ["hall", "name"] fS fdS) (M : At K mg "_law_machine" sLMach ["hall", "name"] fM fdM)
    (me : mg "enumerate" = none) (msum : mg "sum" = none) : FnOk P w K mg base CX0 3 f fd ["hall", "name"] (spBk K) := by
  have GW : FnOk P w K mg base CX0 1 fW fdW ["hall", "name"] (spWay K) := ok_lway W me
  have GS : FnOk P w K mg base CX0 2 fS fdS ["hall", "name"] (spLSum K) := ok_lsum Su M msum
  have bsum : bootBuiltins "sum" = some (.builtin "sum") := by decide +kernel
  refine F.fn.ok scLBk (fun vs H Q E h => ?_) (fun cdv A outer s H vs Q E hr h => ?_)
  · obtain ⟨r, pm, pb, mv, bv, h, x, p, rfl, _⟩ := h
    rfl
  · obtain ⟨r, pm, pb, mv, bv, h, x, p, rfl, at_h, seen, tree, mx, home, fin⟩ := h
    have nd := scLBk.nd
    have short := home.short seen
    have hr1 : Room 1 _ := hr.mono (by decide)
    refine ⟨_, pss_one (ps_ret (pe_callB (cr_sum rfl) (by rfl) msum bsum (pa_cons (pe_lc (own := [("at", 2)]) (g := gName 2) (tt := tYes) rfl nd
      (pi_list (pe_slice sl_list (pe_call GW hr1 (by rfl) W.g W.fn.kp W.b .nil pass0 (pa_cons (pv 0) (pa_cons (pv 1) pa_nil))) (po_some pe_int) po_none)) (blkOk_by (N := lbkN) (sc := defScope sLBk) (by decide +kernel))
      (fun _ _ _ _ _ => pg_name (i := 2) nd rfl (Or.inl rfl)) (fun _ _ _ _ _ => pts_nil)
      (fun _ _ _ _ _ => pe_ix (r := rIxT K) ix_tup (pe_call GS hr (by rfl) Su.g Su.fn.kp Su.b .nil pass0 (pa_cons (pv 0) (pa_cons (pe_ix (r := rIxT K) ix_tup (pe_ix (r := rIxT K) ix_tup (pe_ix (r := rIxT K) ix_tup (pv 0) pe_int (fun _ _ => rfl)) (pv 2) (fun _ _ => rfl)) pe_int (fun _ _ => rfl)) pa_nil))) pe_int (fun _ _ => rfl))) pa_nil))), ?_⟩
    refine ⟨_, rfl, _, rfl, r, pm, pb, mv, bv, h, x, p, rfl, at_h, seen, tree, mx, home, fun G q s nq at_q => ?_⟩
    have at_g := at_h.up s
    refine ⟨1, rfl, q, _, rfl, SqL.of at_q, fun c nc => ?_⟩
    rw [cut_drop1, ← List.map_drop]
    have sc := same_new (o := .lst ((p.drop 1).map fun j => V.int (j : Nat))) nc
    refine ⟨c, rfl, ⟨_, SqL.of upd_same⟩, fun D nD => ?_⟩
    have lenp : (p.drop 1).length ≤ 9 := by
      rw [List.length_drop]
      omega
    have inp : ∀ j ∈ p.drop 1, j ∈ p := fun j m => List.mem_of_mem_drop m
    have be := backH_eq h p
    generalize p.drop 1 = ps at *
    have at_c : upd G c (.lst (ps.map fun j => V.int (j : Nat))) c = some (.lst (ps.map fun j => V.int (j : Nat))) := upd_same
    have sgc : Same H (upd G c (.lst (ps.map fun j => V.int (j : Nat)))) := s.trans sc
    generalize upd G c (.lst (ps.map fun j => V.int (j : Nat))) = G1 at *
    refine lc_list (K := K) (a := c) (xs := ps.map fun j => V.int (j : Nat)) (fun i G' => Same G1 G' ∧ G' D = some (.lst (((ps.take i).map fun j => backsH h (startAt h j)).map V.int))) ⟨same_new nD, upd_same⟩ (fun i G' _ ⟨s', _⟩ => SqL.of (s' _ _ at_c)) ?_ ?_
    · rintro i v G2 at_i ⟨s2, at_D⟩
      rw [List.getElem?_map] at at_i
      obtain ⟨j, ej, rfl⟩ := Option.map_eq_some_iff.mp at_i
      have at_2 := at_h.up (sgc.trans s2)
      obtain ⟨m, t, em, hv, sqt, mm⟩ := way_belt seen at_2 home (inp j (List.mem_of_getElem? ej))
      refine ⟨rfl, _, rfl, _, rfl, r, _, 1, _, rfl, rfl, at_2.r, atI_nat (j := 1) rfl, _, rfl, pb, _, (j : Nat), _, rfl, rfl, at_2.bl, atI_nat hv, t, _, 0, _, rfl, rfl, sqt, atI_nat (j := 0) rfl, ?_⟩
      refine ⟨r, pm, pb, mv, bv, h, m.1, rfl, at_2, seen, (seen.ends m mm).1, fun G3 q3 z s3 n3 at_3 => ?_⟩
      have at_D3 := s3 _ _ at_D
      refine ⟨q3, _, 1, _, rfl, rfl, .inl (.inl at_3), atI_nat (j := 1) rfl, _, at_D3, small1000 ?_, same_set (s2.trans s3) nD, ?_⟩
      · rw [List.length_map, List.length_map, List.length_take]
        omega
      · rw [upd_same, List.take_succ, ej, List.map_append, List.map_append, ← startAt_eq em]
        rfl
    · rintro G2 ⟨s2, at_D⟩
      rw [List.length_map, List.take_length] at at_D
      refine ⟨D, _, rfl, SqL.of at_D, ?_⟩
      rw [be]
      exact fin G2 (sgc.trans s2)
/-! ### the law's way there and back -/
abbrev sLTh : Stmt := topS 34
abbrev lthN : List Str := ["hall", "name", "belts", "at"]
theorem scLTh : FnScope lthN ["hall", "name"] (defScope sLTh) := ⟨rfl, rfl, rfl, by decide +kernel, rfl, by decide +kernel, by decide +kernel⟩
theorem ok_lth {f fW : Addr} {fd fdW : FuncData} (F : At K mg "_law_there" sLTh ["hall", "name"] f fd) (W : At K mg "_law_way_home" sLWay ["hall", "name"] fW fdW)
    (mt : mg "tuple" = none) (me : mg "enumerate" = none) : FnOk P w K mg base CX0 2 f fd ["hall", "name"] (spTh K) := by
  have GS : FnOk P w K mg base CX0 1 fW fdW ["hall", "name"] (spWay K) := ok_lway W me
  have bt : bootBuiltins "tuple" = some (.type "tuple") := by decide +kernel
  refine F.fn.ok scLTh (fun vs H Q E h => ?_) (fun cdv A outer s H vs Q E hr h => ?_)
  · obtain ⟨r, pm, pb, mv, bv, h, x, p, rfl, _⟩ := h
    rfl
  · obtain ⟨r, pm, pb, mv, bv, h, x, p, rfl, at_h, seen, tree, mx, home, fin⟩ := h
    have nd := scLTh.nd
    have short := home.short seen
    refine ⟨_, pss_cons (ps_set (i := 2) nd rfl (Or.inl rfl) (pe_call GS hr (by rfl) W.g W.fn.kp W.b .nil pass0 (pa_cons (pv 0) (pa_cons (pv 1) pa_nil))))
      (pss_one (ps_ret (pe_tup (pa_cons (pe_ix ix_tup (pv 0) pe_int (fun _ _ => rfl)) (pa_cons (pe_callTy call_tuple_of (by rfl) mt bt (pa_cons (pe_op op_cat
        (pe_lc (own := [("at", 3)]) (g := gName 3) (tt := tYes) rfl nd (pi_list (pe_revL (pv 2))) (blkOk_by (N := lthN) (sc := defScope sLTh) (by decide +kernel)) (fun _ _ _ _ _ => pg_name (i := 3) nd rfl (Or.inl rfl)) (fun _ _ _ _ _ => pts_nil) (fun _ _ _ _ _ => pe_tup (pa_cons pe_str (pa_cons (pv 3) pa_nil))))
        (pe_lc (own := [("at", 3)]) (g := gName 3) (tt := tYes) rfl nd (pi_list (pv 2)) (blkOk_by (N := lthN) (sc := defScope sLTh) (by decide +kernel)) (fun _ _ _ _ _ => pg_name (i := 3) nd rfl (Or.inl rfl)) (fun _ _ _ _ _ => pts_nil) (fun _ _ _ _ _ => pe_tup (pa_cons pe_str (pa_cons (pv 3) pa_nil))))) pa_nil)) pa_nil))))), ?_⟩
    refine ⟨_, rfl, _, rfl, r, pm, pb, mv, bv, h, x, p, rfl, at_h, seen, tree, mx, home, fun G q s nq at_q => ?_⟩
    have at_g := at_h.up s
    refine ⟨_, rfl, r, _, 2, _, rfl, rfl, at_g.r, atI_nat (j := 2) rfl, ?_⟩
    refine ⟨_, rfl, q, _, rfl, SqL.of at_q, fun a na => ?_⟩
    have sa := same_new (o := .lst (p.map fun j => V.int (j : Nat)).reverse) na
    refine ⟨a, rfl, ⟨_, SqL.of upd_same⟩, fun D nD => ?_⟩
    refine lc_steps (K := K) (p := p.reverse) (u := "up") (by rw [List.length_reverse]; omega) (by rw [upd_same, List.map_reverse]) nD (fun _ => rfl) (fun j H' Q' q' => ⟨_, rfl, len_line (by show 2 ≤ 100000; decide), q'⟩) fun G2 ws s2 at_D len2 d2 => ?_
    have at_q2 := s2 _ _ (sa _ _ at_q)
    refine ⟨_, rfl, q, rfl, ⟨_, SqL.of at_q2⟩, fun D' nD' => ?_⟩
    refine lc_steps (K := K) (p := p) (u := "down") (by omega) at_q2 nD' (fun _ => rfl) (fun j H' Q' q' => ⟨_, rfl, len_line (by show 2 ≤ 100000; decide), q'⟩) fun G3 ws' s3 at_D' len3 d3 => ?_
    have at_D3 := s3 _ _ at_D
    rw [List.length_reverse] at len2
    refine ⟨D, D', _, _, rfl, rfl, at_D3, at_D', len_line (by omega), fun L nL => ?_⟩
    have s4 := same_new (o := .lst (ws ++ ws')) nL
    refine ⟨L, _, rfl, .inl ⟨SqL.of upd_same, fun T nT => ?_⟩⟩
    have s5 := same_new (o := .tup (ws ++ ws')) nT
    refine ⟨len_line (by show 2 ≤ 100000; decide), fun T2 nT2 => ?_⟩
    have s6 := same_new (o := .tup [.str h.fl, .ref T]) nT2
    refine fin _ _ ((((((s.trans sa).trans s2).trans s3).trans s4).trans s5).trans s6) ?_
    refine .tup (.inl (.inl upd_same)) (.cons (.str _) (.cons ?_ .nil))
    refine .tup (.inl (.inl (s6 _ _ upd_same))) (dats_app (DatAll.up (((s3.trans s4).trans s5).trans s6) d2) (DatAll.up ((s4.trans s5).trans s6) d3))
end
end K24

namespace K24
open PySem PySem.Spec PyProof.Rows L2 Vd Evl
theorem others_asc {h : Hall} (s : Seen h) : (othersH h).Pairwise fun x y => ahead x y = true := s.asc.filter _
theorem others_mem {h : Hall} {x : Str} (m : x ∈ othersH h) : x ∈ namesH h := (List.mem_filter.mp m).1
theorem starts_mem {h : Hall} (s : Seen h) {x : Str} (m : x ∈ startsH h) : x ∈ namesH h := by
  obtain ⟨b, mb, rfl⟩ := List.mem_map.mp m
  exact (s.ends b mb).1
theorem belts_shaped {l : List Belt} (h : ∀ m ∈ l, PyData.strOk m.1 = true ∧ PyData.strOk m.2.1 = true) : SeqAt.shaped (.list (l.map beltD)) = true := by
  have lay : ∀ l : List Belt, (∀ m ∈ l, PyData.strOk m.1 = true ∧ PyData.strOk m.2.1 = true) → PyData.canLayAll0 (l.map beltD) = true ∧ PyData.depthAll (l.map beltD) ≤ 1 := by
    intro l
    induction l with
    | nil => exact fun _ => ⟨by simp [PyData.canLayAll0], by simp [PyData.depthAll]⟩
    | cons c l ih =>
      intro all
      obtain ⟨i1, i2⟩ := ih fun d m => all d (.tail _ m)
      obtain ⟨a1, a2⟩ := all c (.head _)
      refine ⟨?_, ?_⟩
      · simp only [List.map_cons, PyData.canLayAll0, beltD, PyData.canLay0, a1, a2, Bool.and_self, Bool.true_and]
        simpa using i1
      · simp only [List.map_cons, PyData.depthAll, beltD, PyData.depth]
        exact Nat.max_le.mpr ⟨by decide, i2⟩
  obtain ⟨l1, l2⟩ := lay l h
  unfold SeqAt.shaped
  have e1 : (PyData.list (l.map beltD)).canLay0 = true := by simpa [PyData.canLay0] using l1
  have e2 : (PyData.list (l.map beltD)).depth ≤ 64 := by
    show PyData.depthAll _ + 1 ≤ 64
    omega
  rw [e1, decide_eq_true e2]
  rfl
theorem belts_eqv (l : List Belt) : PyData.eqv (.list (l.map beltD)) (.list []) = l.isEmpty := by
  cases l <;> simp [PyData.eqv, PyData.eqvAll]
theorem once_short {α : Type} [DecidableEq α] : ∀ (xs acc : List α), (once acc xs).length ≤ acc.length + xs.length
  | [], acc => Nat.le_refl _
  | x :: xs, acc => by
    show (once (if x ∈ acc then acc else acc ++ [x]) xs).length ≤ _
    have := once_short xs (if x ∈ acc then acc else acc ++ [x])
    by_cases h : x ∈ acc
    · rw [if_pos h] at this ⊢
      rw [List.length_cons]
      omega
    · rw [if_neg h] at this ⊢
      rw [List.length_append] at this
      rw [List.length_cons]
      have e : [x].length = 1 := rfl
      omega
section
variable {P : Program} {w : World} {K : PySem.W.Frag} {mg : Str → Option Value} {base : Heap}
/-! ### is a tree -/
abbrev sIT : Stmt := topS 10
abbrev itN : List Str := ["hall", "_", "belts", "filler", "starts", "start", "name", "belt"]
theorem scIT : FnScope itN ["hall"] (defScope sIT) := ⟨rfl, rfl, rfl, by decide +kernel, rfl, by decide +kernel, by decide +kernel⟩
def spIT (K : PySem.W.Frag) : Sp := fun vs H Q _ => ∃ (r pm pb : Addr) (mv bv : List V) (h : Hall), vs = [.ref r] ∧ HallIn K H r h pm pb mv bv ∧ Seen h ∧
  ∀ H' t, Same H H' → (t = true ↔ treeH h) → Q (.bl t) H'
theorem ok_it {f fN : Addr} {fd fdN : FuncData} (F : At K mg "is_tree" sIT ["hall"] f fd) (N : At K mg "names_of" sNof ["hall"] fN fdN) (mt : mg "tuple" = none) (ms : mg "sorted" = none) (ma : mg "all" = none) : FnOk P w K mg base CX0 2 f fd ["hall"] (spIT K) := by
  have GN : FnOk P w K mg base CX0 1 fN fdN ["hall"] (spNof K) := ok_nof N mt
  have bs_ : bootBuiltins "sorted" = some (.builtin "sorted") := by decide +kernel
  have ba : bootBuiltins "all" = some (.builtin "all") := by decide +kernel
  refine F.fn.ok scIT (fun vs H Q E h => ?_) (fun cdv A outer s H vs Q E hr h => ?_)
  · obtain ⟨r, pm, pb, mv, bv, h, rfl, _⟩ := h
    rfl
  · obtain ⟨r, pm, pb, mv, bv, h, rfl, at_h, seen, fin⟩ := h
    have nd := scIT.nd
    refine ⟨_, pss_cons (ps_asg (pv 0) (pg_tup rfl (pgs_cons (pg_name (i := 1) nd rfl (Or.inl rfl)) (pgs_cons (pg_name (i := 2) nd rfl (Or.inl rfl)) (pgs_cons (pg_name (i := 3) nd rfl (Or.inr rfl)) pgs_nil)))))
      (pss_cons (ps_set (i := 4) nd rfl (Or.inl rfl) (pe_callB cr_sortedS (by rfl) ms bs_ (pa_cons (pe_lc (own := [("start", 5), ("_", 1)]) (g := gTup K 4 (gCons (gName 5) (gCons (gName 1) (gCons (gName 1) (gCons (gName 1) gNil))))) (tt := tYes) rfl nd (pi_tup (pv 2)) (blkOk_by (N := itN) (sc := defScope sIT) (by decide +kernel))
        (fun _ _ _ _ _ => pg_tup rfl (pgs_cons (pg_name (i := 5) nd rfl (Or.inl rfl)) (pgs_cons (pg_name (i := 1) nd rfl (Or.inl rfl)) (pgs_cons (pg_name (i := 1) nd rfl (Or.inl rfl)) (pgs_cons (pg_name (i := 1) nd rfl (Or.inl rfl)) pgs_nil))))) (fun _ _ _ _ _ => pts_nil) (fun _ _ _ _ _ => pv 5)) pa_nil)))
      (pss_one (ps_ret (pe_and (pe_cmpR (op_eqG hr.units) (pv 4) (pe_lc (own := [("name", 6)]) (g := gName 6) rfl nd (pi_tup (pe_call GN (hr.mono (by decide)) (by rfl) N.g N.fn.kp N.b .nil pass0 (pa_cons (pv 0) pa_nil))) (blkOk_by (N := itN) (sc := defScope sIT) (by decide +kernel))
          (fun _ _ _ _ _ => pg_name (i := 6) nd rfl (Or.inl rfl)) (fun _ _ _ _ _ => pts_one (pt_cmpR op_ne (pv 6) (pv 3) (nomark _))) (fun _ _ _ _ _ => pv 6)) (nomark _))
        (pe_one (pe_callB (cr_all rfl) (by rfl) ma ba (pa_cons (pe_lc (own := [("belt", 7)]) (g := gName 7) (tt := tYes) rfl nd (pi_tup (pv 2)) (blkOk_by (N := itN) (sc := defScope sIT) (by decide +kernel))
          (fun _ _ _ _ _ => pg_name (i := 7) nd rfl (Or.inl rfl)) (fun _ _ _ _ _ => pts_nil) (fun _ _ _ _ _ => pe_cmpR op_eq (pe_ix (r := rIxT K) ix_tup (pv 7) pe_int (fun _ _ => rfl)) (pe_ix (r := rIxT K) ix_tup (pv 7) pe_int (fun _ _ => rfl)) (nomark _))) pa_nil))))))), ?_⟩
    refine ⟨_, rfl, r, _, rfl, at_h.r, rfl, _, _, rfl, _, _, rfl, _, _, rfl, rfl, ?_⟩
    have few := seen.few
    have fewB := seen.fewB
    refine ⟨_, rfl, pb, rfl, ⟨_, at_h.bl⟩, fun D nD => ?_⟩
    refine lc_tup (K := K) (a := pb) (xs := bv) (fun i G => Same H G ∧ G D = some (.lst (((startsH h).take i).map V.str))) ⟨same_new nD, upd_same⟩ (fun i G _ ⟨s, _⟩ => sqt_up s at_h.bl) ?_ ?_
    · rintro i v G at_i ⟨s, at_D⟩
      obtain ⟨m, t, em, rfl, sqt⟩ := belt_at i v at_h.bd at_i
      refine ⟨t, _, rfl, sqt_up s sqt, rfl, _, _, rfl, _, _, rfl, _, _, rfl, _, _, rfl, rfl, rfl, _, rfl, _, at_D, small1000 ?_, same_set s nD, ?_⟩
      · unfold startsH
        rw [List.length_map, List.length_take, List.length_map]
        omega
      · unfold startsH
        rw [upd_same, List.take_succ, List.getElem?_map, em, List.map_append]
        rfl
    rintro G1 ⟨s1, at_D⟩
    rw [List.take_of_length_le (by unfold startsH; rw [List.length_map, at_h.blen]; exact Nat.le_refl _)] at at_D
    refine ⟨D, _, rfl, SqL.of at_D, by unfold startsH; rw [List.length_map]; omega, fun ys p perm asc np => ?_⟩
    have s2 := same_set (o := .lst (ys.map V.str)) s1 (s1.free np)
    have at_p : upd G1 p (.lst (ys.map V.str)) p = some (.lst (ys.map V.str)) := upd_same
    generalize upd G1 p (.lst (ys.map V.str)) = G2 at s2 at_p
    have at_2 := at_h.up s2
    refine ⟨_, rfl, _, rfl, r, pm, pb, mv, bv, h, rfl, at_2, Nat.le_trans few (by decide), fun G3 q s3 nq at_q => ?_⟩
    have sqq : SqT K G3 q ((namesH h).map V.str) := .inl (.inl at_q)
    refine ⟨q, rfl, ⟨_, sqq⟩, fun D2 nD2 => ?_⟩
    refine lc_tup (K := K) (a := q) (xs := (namesH h).map V.str) (fun i G => Same G3 G ∧ G D2 = some (.lst ((((namesH h).take i).filter fun x => !decide (x = h.fl)).map V.str))) ⟨same_new nD2, upd_same⟩ (fun i G _ ⟨s, _⟩ => sqt_up s sqq) ?_ ?_
    · rintro i v G at_i ⟨s, at_D2⟩
      rw [List.getElem?_map] at at_i
      obtain ⟨y, ey, rfl⟩ := Option.map_eq_some_iff.mp at_i
      refine ⟨rfl, _, rfl, _, rfl, rfl, _, rfl, ite2 (fun c1 => ?_) (fun c1 => ?_)⟩
      · have e1 : ¬ y = h.fl := fun z => by
          rw [z] at c1
          simp at c1
        refine ⟨_, rfl, _, at_D2, small1000 ?_, same_set s nD2, ?_⟩
        · rw [List.length_map]
          have h1 := List.length_filter_le (fun x => !decide (x = h.fl)) ((namesH h).take i)
          have h2 : (namesH h).length = h.ms.length := List.length_map ..
          rw [List.length_take] at h1
          omega
        · rw [upd_same, List.take_succ, ey, List.filter_append]
          simp [e1]
      · have e1 : y = h.fl := by
          by_cases z : y = h.fl
          · exact z
          · exact absurd (by simp [z]) c1
        refine ⟨s, ?_⟩
        rw [at_D2, List.take_succ, ey, List.filter_append]
        simp [e1]
    rintro G4 ⟨s4, at_D2⟩
    rw [List.length_map, List.take_length] at at_D2
    have at_D2' : G4 D2 = some (.lst ((othersH h).map V.str)) := at_D2
    have at_p4 := s4 _ _ (s3 _ _ at_p)
    have s5 := (s2.trans s3).trans s4
    refine ⟨.list (ys.map PyData.str), .list ((othersH h).map PyData.str), .lst (SqL.of at_p4) (strs_dats _), .lst (SqL.of at_D2') (strs_dats _), strs_shaped fun x m => (seen.okS x (starts_mem seen (perm.mem_iff.mp m))).1, strs_shaped fun x m => (seen.okS x (others_mem m)).1, ?_⟩
    rw [eqv_strs]
    refine ⟨_, rfl, ite2 (fun c1 => ?_) (fun c1 => ?_)⟩
    · have same : ys = othersH h := of_decide_eq_true c1
      have pm' : (startsH h).Perm (othersH h) := (sort_eq perm asc (others_asc seen)).mp same
      have at_4 := at_h.up s5
      refine ⟨_, rfl, pb, rfl, ⟨_, at_4.bl⟩, fun D3 nD3 => ?_⟩
      refine lc_tup (K := K) (a := pb) (xs := bv) (fun i G => Same G4 G ∧ G D3 = some (.lst (((h.bs.take i).map fun m => decide (m.2.2.1 = m.2.2.2)).map V.bl))) ⟨same_new nD3, upd_same⟩ (fun i G _ ⟨s, _⟩ => sqt_up s at_4.bl) ?_ ?_
      · rintro i v G at_i ⟨s, at_D3⟩
        obtain ⟨m, t, em, rfl, sqt⟩ := belt_at i v at_4.bd at_i
        refine ⟨rfl, _, rfl, t, _, 2, _, rfl, rfl, sqt_up s sqt, atI_nat (j := 2) rfl, _, rfl, t, _, 3, _, rfl, rfl, sqt_up s sqt, atI_nat (j := 3) rfl, rfl, _, at_D3, small1000 ?_, same_set s nD3, ?_⟩
        · rw [List.length_map, List.length_map, List.length_take]
          omega
        · have e2 : decide (V.int m.2.2.1 = V.int m.2.2.2) = decide (m.2.2.1 = m.2.2.2) := by
            by_cases z : m.2.2.1 = m.2.2.2
            · simp [z]
            · simp [z]
          rw [upd_same, List.take_succ, em, List.map_append, List.map_append, e2]
          rfl
      rintro G5 ⟨s6, at_D3⟩
      rw [at_h.blen, List.take_length] at at_D3
      refine ⟨D3, _, rfl, SqL.of at_D3, fin G5 _ (s5.trans s6) ?_⟩
      rw [List.all_map, List.all_eq_true]
      refine ⟨fun z => ⟨fun m mm => of_decide_eq_true (z m mm), pm'⟩, fun z m mm => decide_eq_true (z.1 m mm)⟩
    · exact fin G4 false s5 ⟨fun z => (by cases z), fun z => absurd (decide_eq_true ((sort_eq perm asc (others_asc seen)).mpr z.2)) c1⟩
end
end K24

namespace K24
open PySem PySem.Spec PyProof.Rows L2 Vd Evl
/-! ### is a line -/
section
variable {P : Program} {w : World} {K : PySem.W.Frag} {mg : Str → Option Value} {base : Heap}
theorem keys_strs (l : List Str) : (l.map V.str) = (l.map (fun x => (Sum.inr x : Key))).map kV := by
  rw [List.map_map]
  rfl
theorem keys_nodup {l : List Str} : (l.map (fun x => (Sum.inr x : Key))).Nodup ↔ l.Nodup := by
  constructor
  · exact fun n => (List.pairwise_map.mp n).imp fun ne e => ne (by rw [e])
  · exact fun n => List.pairwise_map.mpr (n.imp fun ne e => ne (by injection e))
theorem once_once (l : List Str) : (decide (V.int ((once [] (l.map (fun x => (Sum.inr x : Key)))).length : Nat) = V.int (l.length : Nat))) = true ↔ l.Nodup := by
  have a := once_full (l.map (fun x => (Sum.inr x : Key))) [] List.nodup_nil (fun x _ m => nomatch m)
  rw [List.length_map, keys_nodup] at a
  rw [← a, decide_eq_true_eq]
  constructor
  · intro e
    injection e with e
    have : ([] : List Key).length + l.length = l.length := by simp
    omega
  · intro e
    have e' : ([] : List Key).length + l.length = l.length := by simp
    rw [e, e']
abbrev sIL : Stmt := topS 11
abbrev ilN : List Str := ["hall", "ends", "_", "end"]
theorem scIL : FnScope ilN ["hall"] (defScope sIL) := ⟨rfl, rfl, rfl, by decide +kernel, rfl, by decide +kernel, by decide +kernel⟩
def spIL (K : PySem.W.Frag) : Sp := fun vs H Q _ => ∃ (r pm pb : Addr) (mv bv : List V) (h : Hall), vs = [.ref r] ∧ HallIn K H r h pm pb mv bv ∧ Seen h ∧
  ∀ H' t, Same H H' → (t = true ↔ treeH h ∧ (endsH h).Nodup) → Q (.bl t) H'
theorem ok_il {f fT fN : Addr} {fd fdT fdN : FuncData} (F : At K mg "is_line" sIL ["hall"] f fd) (T : At K mg "is_tree" sIT ["hall"] fT fdT) (N : At K mg "names_of" sNof ["hall"] fN fdN) (mt : mg "tuple" = none) (ms : mg "sorted" = none) (ma : mg "all" = none) (mset : mg "set" = none) (ml : mg "len" = none) : FnOk P w K mg base CX0 3 f fd ["hall"] (spIL K) := by
  have GT : FnOk P w K mg base CX0 2 fT fdT ["hall"] (spIT K) := ok_it T N mt ms ma
  have bset : bootBuiltins "set" = some (.type "set") := by decide +kernel
  refine F.fn.ok scIL (fun vs H Q E h => ?_) (fun cdv A outer s H vs Q E hr h => ?_)
  · obtain ⟨r, pm, pb, mv, bv, h, rfl, _⟩ := h
    rfl
  · obtain ⟨r, pm, pb, mv, bv, h, rfl, at_h, seen, fin⟩ := h
    have nd := scIL.nd
    refine ⟨_, pss_cons (ps_setLc (i := 1) (own := [("_", 2), ("end", 3)]) (g := gTup K 4 (gCons (gName 2) (gCons (gName 3) (gCons (gName 2) (gCons (gName 2) gNil))))) (tt := tYes) rfl nd rfl rfl (by rfl) (pi_tup (pe_ix ix_tup (pv 0) pe_int (fun _ _ => rfl))) (blkOk_by (N := ilN) (sc := defScope sIL) (by decide +kernel))
        (fun _ _ _ _ _ => pg_tup rfl (pgs_cons (pg_name (i := 2) nd rfl (Or.inl rfl)) (pgs_cons (pg_name (i := 3) nd rfl (Or.inl rfl)) (pgs_cons (pg_name (i := 2) nd rfl (Or.inl rfl)) (pgs_cons (pg_name (i := 2) nd rfl (Or.inl rfl)) pgs_nil))))) (fun _ _ _ _ _ => pts_nil) (fun _ _ _ _ _ => pv 3))
      (pss_one (ps_ret (pe_and (pe_call GT hr (by rfl) T.g T.fn.kp T.b .nil pass0 (pa_cons (pv 0) pa_nil)) (pe_one (pe_cmpR op_eq (pe_callB call_lenM (by rfl) ml PySem.boot_len (pa_cons (pe_callTy (cr_setK rfl) (by rfl) mset bset (pa_cons (pv 1) pa_nil)) pa_nil)) (pe_callB call_len_seq (by rfl) ml PySem.boot_len (pa_cons (pv 1) pa_nil)) (nomark _)))))), ?_⟩
    have fewB := seen.fewB
    have elen : (endsH h).length = h.bs.length := List.length_map ..
    refine ⟨_, rfl, r, _, 1, _, rfl, rfl, at_h.r, atI_nat (j := 1) rfl, pb, rfl, ⟨_, at_h.bl⟩, fun D nD => ?_⟩
    refine lc_tup (K := K) (a := pb) (xs := bv) (fun i G => Same H G ∧ G D = some (.lst (((endsH h).take i).map V.str))) ⟨same_new nD, upd_same⟩ (fun i G _ ⟨s, _⟩ => sqt_up s at_h.bl) ?_ ?_
    · rintro i v G at_i ⟨s, at_D⟩
      obtain ⟨m, t, em, rfl, sqt⟩ := belt_at i v at_h.bd at_i
      refine ⟨t, _, rfl, sqt_up s sqt, rfl, _, _, rfl, _, _, rfl, _, _, rfl, _, _, rfl, rfl, rfl, _, rfl, _, at_D, small1000 ?_, same_set s nD, ?_⟩
      · rw [List.length_map, List.length_take]
        omega
      · unfold endsH
        rw [upd_same, List.take_succ, List.getElem?_map, em, List.map_append]
        rfl
    rintro G1 ⟨s1, at_D⟩
    rw [List.take_of_length_le (by rw [at_h.blen, elen]; exact Nat.le_refl _)] at at_D
    refine ⟨_, rfl, r, pm, pb, mv, bv, h, rfl, at_h.up s1, seen, fun G2 t s2 iff => ⟨t, rfl, ite2 (fun c1 => ?_) (fun c1 => ?_)⟩⟩
    · have at_D2 := s2 _ _ at_D
      have short : ((endsH h).map (fun x => (Sum.inr x : Key))).length ≤ 10 := by
        rw [List.length_map]
        omega
      have short2 := once_len ((endsH h).map (fun x => (Sum.inr x : Key))) []
      have z0 : ([] : List Key).length = 0 := rfl
      refine ⟨_, rfl, D, (endsH h).map (fun x => (Sum.inr x : Key)), rfl, SqL.of (by rw [← keys_strs]; exact at_D2), by omega, fun p np => ?_⟩
      refine ⟨p, _, rfl, upd_same, by omega, ?_⟩
      have s3 := same_new (o := SetM P w p (once [] ((endsH h).map (fun x => (Sum.inr x : Key))))) np
      refine ⟨_, rfl, D, _, rfl, .inl (SqL.of (s3 _ _ at_D2)), rfl, ?_⟩
      refine fin _ _ ((s1.trans s2).trans s3) ?_
      rw [List.length_map, once_once]
      exact ⟨fun n => ⟨iff.mp c1, n⟩, fun z => z.2⟩
    · refine fin G2 false (s1.trans s2) ⟨fun z => (by cases z), fun z => absurd (iff.mpr z.1) c1⟩
end
/-! ### the law's is a tree -/
section
variable {P : Program} {w : World} {K : PySem.W.Frag} {mg : Str → Option Value} {base : Heap}
abbrev sLIT : Stmt := topS 30
abbrev litN : List Str := ["hall", "starts", "belt", "name"]
theorem scLIT : FnScope litN ["hall"] (defScope sLIT) := ⟨rfl, rfl, rfl, by decide +kernel, rfl, by decide +kernel, by decide +kernel⟩
theorem filter_full {l : List Belt} : (l.filter fun m : Belt => !decide (m.2.2.1 = m.2.2.2)).isEmpty = true ↔ ∀ m ∈ l, m.2.2.1 = m.2.2.2 := by
  rw [List.isEmpty_iff, List.filter_eq_nil_iff]
  constructor
  · intro a m mm
    have := a m mm
    simpa using this
  · intro a m mm
    simp [a m mm]
theorem ok_lit {f fN : Addr} {fd fdN : FuncData} (F : At K mg "_law_is_tree" sLIT ["hall"] f fd) (N : At K mg "_law_names" sLNames ["hall"] fN fdN) (ms : mg "sorted" = none) : FnOk P w K mg base CX0 2 f fd ["hall"] (spIT K) := by
  have GN : FnOk P w K mg base CX0 1 fN fdN ["hall"] (spLNames K) := ok_lnames N
  have bs_ : bootBuiltins "sorted" = some (.builtin "sorted") := by decide +kernel
  refine F.fn.ok scLIT (fun vs H Q E h => ?_) (fun cdv A outer s H vs Q E hr h => ?_)
  · obtain ⟨r, pm, pb, mv, bv, h, rfl, _⟩ := h
    rfl
  · obtain ⟨r, pm, pb, mv, bv, h, rfl, at_h, seen, fin⟩ := h
    have nd := scLIT.nd
    refine ⟨_, pss_cons (ps_if (pt_cmpR (op_neG hr.units) (pe_lc (own := [("belt", 2)]) (g := gName 2) rfl nd (pi_tup (pe_ix ix_tup (pv 0) pe_int (fun _ _ => rfl))) (blkOk_by (N := litN) (sc := defScope sLIT) (by decide +kernel))
          (fun _ _ _ _ _ => pg_name (i := 2) nd rfl (Or.inl rfl)) (fun _ _ _ _ _ => pts_one (pt_cmpR op_ne (pe_ix (r := rIxT K) ix_tup (pv 2) pe_int (fun _ _ => rfl)) (pe_ix (r := rIxT K) ix_tup (pv 2) pe_int (fun _ _ => rfl)) (nomark _))) (fun _ _ _ _ _ => pv 2)) (pe_lst pa_nil) (nomark _)) (pss_one (ps_ret pe_bl)) pss_nil)
      (pss_cons (ps_setLc (i := 1) (own := [("belt", 2)]) (g := gName 2) (tt := tYes) rfl nd rfl rfl (by rfl) (pi_tup (pe_ix ix_tup (pv 0) pe_int (fun _ _ => rfl))) (blkOk_by (N := litN) (sc := defScope sLIT) (by decide +kernel))
          (fun _ _ _ _ _ => pg_name (i := 2) nd rfl (Or.inl rfl)) (fun _ _ _ _ _ => pts_nil) (fun _ _ _ _ _ => pe_ix (r := rIxT K) ix_tup (pv 2) pe_int (fun _ _ => rfl)))
      (pss_one (ps_ret (pe_cmpR (op_eqG hr.units) (pe_callB cr_sortedS (by rfl) ms bs_ (pa_cons (pv 1) pa_nil)) (pe_lc (own := [("name", 3)]) (g := gName 3) rfl nd (pi_list (pe_call GN (hr.mono (by decide)) (by rfl) N.g N.fn.kp N.b .nil pass0 (pa_cons (pv 0) pa_nil))) (blkOk_by (N := litN) (sc := defScope sLIT) (by decide +kernel))
          (fun _ _ _ _ _ => pg_name (i := 3) nd rfl (Or.inl rfl)) (fun _ _ _ _ _ => pts_one (pt_cmpR op_ne (pv 3) (pe_ix (r := rIxT K) ix_tup (pv 0) pe_int (fun _ _ => rfl)) (nomark _))) (fun _ _ _ _ _ => pv 3)) (nomark _))))), ?_⟩
    have few := seen.few
    have fewB := seen.fewB
    refine ⟨_, rfl, r, _, 1, _, rfl, rfl, at_h.r, atI_nat (j := 1) rfl, pb, rfl, ⟨_, at_h.bl⟩, fun D nD => ?_⟩
    refine lc_tup (K := K) (a := pb) (xs := bv) (fun i G => Same H G ∧ ∃ ws, G D = some (.lst ws) ∧ ws.length ≤ i ∧ DatAll K H ws (((h.bs.take i).filter fun m : Belt => !decide (m.2.2.1 = m.2.2.2)).map beltD)) ⟨same_new nD, [], upd_same, Nat.le_refl _, .nil⟩ (fun i G _ ⟨s, _⟩ => sqt_up s at_h.bl) ?_ ?_
    · rintro i v G at_i ⟨s, ws, at_D, short, dats⟩
      obtain ⟨m, t, em, rfl, sqt⟩ := belt_at i v at_h.bd at_i
      have lt : i < h.bs.length := (List.getElem?_eq_some_iff.mp em).1
      refine ⟨rfl, _, rfl, t, _, 2, _, rfl, rfl, sqt_up s sqt, atI_nat (j := 2) rfl, _, rfl, t, _, 3, _, rfl, rfl, sqt_up s sqt, atI_nat (j := 3) rfl, rfl, _, rfl, ite2 (fun c1 => ?_) (fun c1 => ?_)⟩
      · have e1 : ¬ m.2.2.1 = m.2.2.2 := fun z => by
          rw [z] at c1
          simp at c1
        refine ⟨_, rfl, ws, at_D, small1000 (by omega), same_set s nD, ws ++ [.ref t], upd_same, by rw [List.length_append]; exact Nat.succ_le_succ short, ?_⟩
        have e2 : (h.bs.take (i + 1)).filter (fun m : Belt => !decide (m.2.2.1 = m.2.2.2)) = (h.bs.take i).filter (fun m : Belt => !decide (m.2.2.1 = m.2.2.2)) ++ [m] := by
          rw [List.take_succ, em, List.filter_append]
          simp [e1]
        rw [e2, List.map_append]
        exact dats_snoc dats (.tup sqt (.cons (.str _) (.cons (.str _) (.cons (.int _) (.cons (.int _) .nil)))))
      · have e1 : m.2.2.1 = m.2.2.2 := by
          by_cases z : m.2.2.1 = m.2.2.2
          · exact z
          · exact absurd (by simp [z]) c1
        have e2 : (h.bs.take (i + 1)).filter (fun m : Belt => !decide (m.2.2.1 = m.2.2.2)) = (h.bs.take i).filter (fun m : Belt => !decide (m.2.2.1 = m.2.2.2)) := by
          rw [List.take_succ, em, List.filter_append]
          simp [e1]
        rw [e2]
        exact ⟨s, ws, at_D, Nat.le_succ_of_le short, dats⟩
    rintro G1 ⟨s1, ws, at_D, _, dats⟩
    rw [at_h.blen, List.take_length] at dats
    have at_1 := at_h.up s1
    refine ⟨len_line (by show 0 ≤ 100000; decide), fun n0 nn => ?_⟩
    have s2 := same_new (o := .lst []) nn
    have s3 := s1.trans s2
    refine ⟨.list ((h.bs.filter fun m : Belt => !decide (m.2.2.1 = m.2.2.2)).map beltD), .list [], .lst (SqL.of (s2 _ _ at_D)) (DatAll.up s3 dats), .lst (SqL.of upd_same) .nil, belts_shaped fun m mm => ?_, by decide +kernel, ?_⟩
    · have := seen.ends m (List.mem_filter.mp mm).1
      exact ⟨(seen.okS _ this.1).1, (seen.okS _ this.2).1⟩
    rw [belts_eqv]
    refine ⟨_, rfl, ite2 (fun c1 => ?_) (fun c1 => ?_)⟩
    · refine fin _ false s3 ⟨fun z => (by cases z), fun z => ?_⟩
      rw [filter_full.mpr z.1] at c1
      cases c1
    have full : fullH h := by
      refine filter_full.mp ?_
      cases e : (h.bs.filter fun m : Belt => !decide (m.2.2.1 = m.2.2.2)).isEmpty with
      | true => rfl
      | false => exact absurd (by rw [e]; rfl) c1
    generalize upd G1 n0 (.lst []) = G2 at *
    have at_2 := at_h.up s3
    refine ⟨_, rfl, r, _, 1, _, rfl, rfl, at_2.r, atI_nat (j := 1) rfl, pb, rfl, ⟨_, at_2.bl⟩, fun D1 nD1 => ?_⟩
    refine lc_tup (K := K) (a := pb) (xs := bv) (fun i G => Same G2 G ∧ G D1 = some (.lst (((startsH h).take i).map V.str))) ⟨same_new nD1, upd_same⟩ (fun i G _ ⟨s, _⟩ => sqt_up s at_2.bl) ?_ ?_
    · rintro i v G at_i ⟨s, at_D1⟩
      obtain ⟨m, t, em, rfl, sqt⟩ := belt_at i v at_2.bd at_i
      refine ⟨rfl, _, rfl, t, _, 0, _, rfl, rfl, sqt_up s sqt, atI_nat (j := 0) rfl, _, at_D1, small1000 ?_, same_set s nD1, ?_⟩
      · unfold startsH
        rw [List.length_map, List.length_take, List.length_map]
        omega
      · unfold startsH
        rw [upd_same, List.take_succ, List.getElem?_map, em, List.map_append]
        rfl
    rintro G3 ⟨s4, at_D1⟩
    rw [List.take_of_length_le (by unfold startsH; rw [List.length_map, at_h.blen]; exact Nat.le_refl _)] at at_D1
    refine ⟨_, rfl, D1, _, rfl, SqL.of at_D1, by unfold startsH; rw [List.length_map]; omega, fun ys p perm asc np => ?_⟩
    have s5 := same_set (o := .lst (ys.map V.str)) (s3.trans s4) ((s3.trans s4).free np)
    have at_p : upd G3 p (.lst (ys.map V.str)) p = some (.lst (ys.map V.str)) := upd_same
    generalize upd G3 p (.lst (ys.map V.str)) = G4 at s5 at_p
    have at_4 := at_h.up s5
    refine ⟨_, rfl, r, pm, pb, mv, bv, h, rfl, at_4, Nat.le_trans few (by decide), fun G5 q s6 nq at_q => ?_⟩
    have at_5 := at_4.up s6
    refine ⟨q, rfl, ⟨_, SqL.of at_q⟩, fun D2 nD2 => ?_⟩
    have qD2 : q ≠ D2 := ne_of_none at_q nD2
    refine lc_list (K := K) (a := q) (xs := (namesH h).map V.str) (fun i G => Same G5 G ∧ G D2 = some (.lst ((((namesH h).take i).filter fun x => !decide (x = h.fl)).map V.str))) ⟨same_new nD2, upd_same⟩ (fun i G _ ⟨s, _⟩ => SqL.of (s _ _ at_q)) ?_ ?_
    · rintro i v G at_i ⟨s, at_D2⟩
      rw [List.getElem?_map] at at_i
      obtain ⟨y, ey, rfl⟩ := Option.map_eq_some_iff.mp at_i
      refine ⟨rfl, _, rfl, _, rfl, r, _, 2, _, rfl, rfl, sqt_up s at_5.r, atI_nat (j := 2) rfl, rfl, _, rfl, ite2 (fun c2 => ?_) (fun c2 => ?_)⟩
      · have e1 : ¬ y = h.fl := fun z => by
          rw [z] at c2
          simp at c2
        refine ⟨_, rfl, _, at_D2, small1000 ?_, same_set s nD2, ?_⟩
        · rw [List.length_map]
          have h1 := List.length_filter_le (fun x => !decide (x = h.fl)) ((namesH h).take i)
          have h2 : (namesH h).length = h.ms.length := List.length_map ..
          rw [List.length_take] at h1
          omega
        · rw [upd_same, List.take_succ, ey, List.filter_append]
          simp [e1]
      · have e1 : y = h.fl := by
          by_cases z : y = h.fl
          · exact z
          · exact absurd (by simp [z]) c2
        refine ⟨s, ?_⟩
        rw [at_D2, List.take_succ, ey, List.filter_append]
        simp [e1]
    rintro G6 ⟨s7, at_D2⟩
    rw [List.length_map, List.take_length] at at_D2
    have at_D2' : G6 D2 = some (.lst ((othersH h).map V.str)) := at_D2
    have at_p6 := s7 _ _ (s6 _ _ at_p)
    refine ⟨.list (ys.map PyData.str), .list ((othersH h).map PyData.str), .lst (SqL.of at_p6) (strs_dats _), .lst (SqL.of at_D2') (strs_dats _), strs_shaped fun x m => (seen.okS x (starts_mem seen (perm.mem_iff.mp m))).1, strs_shaped fun x m => (seen.okS x (others_mem m)).1, ?_⟩
    rw [eqv_strs]
    refine fin G6 _ ((s5.trans s6).trans s7) ?_
    rw [decide_eq_true_eq, sort_eq perm asc (others_asc seen)]
    exact ⟨fun z => ⟨full, z⟩, fun z => z.2⟩
end
end K24

namespace K24
open PySem PySem.Spec PyProof.Rows L2 Vd Evl
/-! ### how great the answers are -/
theorem fit_int {i : Int} (h : i.natAbs ≤ 1000) : Fit 1921 0 (.int i) := by
  refine ⟨?_, rfl, ?_, Nat.le_refl _, Nat.le_refl _⟩
  · show decide (i.natAbs.log2 < 1920) = true
    exact decide_eq_true (Nat.lt_of_le_of_lt (Nat.log2_le_self _) (by omega))
  · show decide (i.natAbs < 2 ^ 400) = true
    refine decide_eq_true (Nat.lt_of_le_of_lt h ?_)
    decide +kernel
theorem fit_none : Fit 1921 0 .none := Fit.of (by decide +kernel)
theorem fit_bool (b : Bool) : Fit 1921 0 (.bool b) := by cases b <;> exact Fit.of (by decide +kernel)
theorem fit_fl {h : Hall} (s : Seen h) : Fit 1921 0 (.str h.fl) := by
  rcases s.fl with e | e <;> rw [e] <;> exact Fit.of (by decide +kernel)
theorem fit_name {h : Hall} (s : Seen h) {x : Str} (m : x ∈ namesH h) : Fit 1921 0 (.str x) := by
  rcases s.names x m with e | e
  · rw [e]
    exact fit_fl s
  · simp only [eight, List.mem_cons, List.not_mem_nil, or_false] at e
    rcases e with e | e | e | e | e | e | e | e <;> rw [e] <;> exact Fit.of (by decide +kernel)
theorem Fit.lst {W D n : Nat} {ds : List PyData} (h : ∀ d ∈ ds, Fit W D d) (len : ds.length ≤ n) : Fit (n * (W + 2) + 4) (D + 1) (.list ds) := by
  obtain ⟨b1, b2, b3, b4, b5⟩ := fits_parts h
  refine ⟨by simpa [Vd.nice] using b1, rfl, rfl, ?_, Nat.succ_le_succ b5⟩
  show wgts ds + 2 ≤ _
  have := Nat.mul_le_mul_right (W + 2) len
  omega
theorem Fit.shows {W D : Nat} {d : PyData} (h : Fit W D d) (hw : W ≤ 1000000) (hd : D ≤ 60) : Shows d ∧ d.depth ≤ 60 := ⟨Shows.of h.nice (by have := h.wgt; omega), Nat.le_trans h.deep hd⟩
theorem sum_low : ∀ l : List Int, (∀ x ∈ l, 0 ≤ x ∧ x ≤ 4) → 0 ≤ l.sum ∧ l.sum ≤ 4 * (l.length : Int)
  | [], _ => ⟨Int.le_refl _, Int.le_refl _⟩
  | x :: l, h => by
    obtain ⟨a, b⟩ := h x (.head _)
    obtain ⟨c, d⟩ := sum_low l fun y m => h y (.tail _ m)
    rw [List.sum_cons, List.length_cons]
    omega
theorem backs_low {h : Hall} (s : Seen h) {x : Str} (mx : x ∈ namesH h) : 0 ≤ backsH h x ∧ backsH h x ≤ 4 := by
  obtain ⟨m, mm, e, ep⟩ := s.pmem mx
  unfold backsH
  rw [ep]
  obtain ⟨l2, po⟩ := s.ms m mm
  generalize m.2.2 = ps at l2 po
  match ps, l2, po with
  | [], _, _ => exact ⟨by decide, by decide⟩
  | [a], _, po =>
    have := po a (.head _)
    unfold PurseOk at this
    show 0 ≤ a.2 + 0 ∧ a.2 + 0 ≤ 4
    omega
  | [a, b], _, po =>
    have h1 := po a (.head _)
    have h2 := po b (.tail _ (.head _))
    unfold PurseOk at h1 h2
    show 0 ≤ a.2 + (b.2 + 0) ∧ a.2 + (b.2 + 0) ≤ 4
    omega
  | a :: b :: c :: r, l, _ =>
    simp at l
theorem back_low {h : Hall} (s : Seen h) {x : Str} {p : List Nat} (hm : Home h x p) : (backH h p).natAbs ≤ 1000 := by
  have short := hm.short s
  have := sum_low (((wayH h p).drop 1).map (backsH h)) fun z mz => by
    obtain ⟨y, my, rfl⟩ := List.mem_map.mp mz
    exact backs_low s (hm.names s y (List.mem_of_mem_drop my))
  have e : (((wayH h p).drop 1).map (backsH h)).length ≤ 9 := by
    unfold wayH
    rw [List.length_map, List.length_drop, List.length_map]
    omega
  unfold backH
  omega
def optD : Option Nat → PyData
  | some j => .int (j : Nat)
  | none => .none
theorem Home.first {h : Hall} (t : treeH h) {x : Str} {p : List Nat} (a : Home h x p) : firstL h x = p.head? := by
  cases a with
  | done => exact first_none t
  | step _ f _ _ _ => exact f
theorem Home.low {h : Hall} (s : Seen h) {x : Str} {p : List Nat} (a : Home h x p) : ∀ j ∈ p, j ≤ 10 := fun j m => by
  obtain ⟨b, e⟩ := a.small s j m
  have := (List.getElem?_eq_some_iff.mp e).1
  have := s.fewB
  omega
/-- what is told of a name -/
def toldD (h : Hall) (p : List Nat) : PyData := .list [optD p.head?, .tuple ((wayH h p).map PyData.str), .int (backH h p)]
theorem told_shows {h : Hall} (s : Seen h) {x : Str} {p : List Nat} (a : Home h x p) : Shows (toldD h p) ∧ (toldD h p).depth ≤ 60 := by
  have short := a.short s
  have f1 : Fit 1921 0 (optD p.head?) := by
    cases p with
    | nil => exact fit_none
    | cons j p => exact fit_int (by have := a.low s j (.head _); show ((j : Nat) : Int).natAbs ≤ 1000; omega)
  have f2 : Fit (9 * (1921 + 2) + 4) 1 (.tuple ((wayH h p).map PyData.str)) := Fit.tup (fun d m => by
    obtain ⟨y, my, rfl⟩ := List.mem_map.mp m
    exact fit_name s (a.names s y my)) (by unfold wayH; rw [List.length_map, List.length_map]; exact short)
  have f3 : Fit 1921 0 (.int (backH h p)) := fit_int (back_low s a)
  refine Fit.shows (W := 3 * (20000 + 2) + 4) (D := 2) (Fit.lst (W := 20000) (D := 1) (n := 3) (fun d m => ?_) (Nat.le_refl 3)) (by decide) (by decide)
  simp only [List.mem_cons, List.not_mem_nil, or_false] at m
  rcases m with e | e | e <;> rw [e]
  · exact f1.more (by decide) (by decide)
  · exact f2.more (by decide) (by decide)
  · exact f3.more (by decide) (by decide)
theorem there_shows {h : Hall} (s : Seen h) {x : Str} {p : List Nat} (a : Home h x p) : Shows (thereD h p) ∧ (thereD h p).depth ≤ 60 := by
  have short := a.short s
  have st : ∀ (u : Str), Fit 1921 0 (.str u) → ∀ j ∈ p, Fit (2 * (1921 + 2) + 4) 1 (stepD u j) := fun u fu j m => by
    refine Fit.tup (W := 1921) (D := 0) (n := 2) (fun d md => ?_) (Nat.le_refl 2)
    simp only [List.mem_cons, List.not_mem_nil, or_false] at md
    rcases md with e | e <;> rw [e]
    · exact fu
    · exact fit_int (by have := a.low s j m; show ((j : Nat) : Int).natAbs ≤ 1000; omega)
  have f2 : Fit (18 * (2 * (1921 + 2) + 4 + 2) + 4) 2 (.tuple (p.reverse.map (stepD "up") ++ p.map (stepD "down"))) := Fit.tup (fun d m => by
    rcases List.mem_append.mp m with m | m
    · obtain ⟨j, mj, rfl⟩ := List.mem_map.mp m
      exact st _ (Fit.of (by decide +kernel)) j (List.mem_reverse.mp mj)
    · obtain ⟨j, mj, rfl⟩ := List.mem_map.mp m
      exact st _ (Fit.of (by decide +kernel)) j mj) (by rw [List.length_append, List.length_map, List.length_map, List.length_reverse]; omega)
  refine Fit.shows (W := 2 * (100000 + 2) + 4) (D := 3) (Fit.tup (W := 100000) (D := 2) (n := 2) (fun d m => ?_) (Nat.le_refl 2)) (by decide) (by decide)
  simp only [List.mem_cons, List.not_mem_nil, or_false] at m
  rcases m with e | e <;> rw [e]
  · exact (fit_fl s).more (by decide) (by decide)
  · exact f2.more (by decide) (by decide)
theorem bools_shows (a b : Bool) : Shows (.list [.bool a, .bool b]) ∧ (PyData.list [.bool a, .bool b]).depth ≤ 60 := by
  refine Fit.shows (W := 2 * (1921 + 2) + 4) (D := 1) (Fit.lst (W := 1921) (D := 0) (n := 2) (fun d m => ?_) (Nat.le_refl 2)) (by decide) (by decide)
  simp only [List.mem_cons, List.not_mem_nil, or_false] at m
  rcases m with e | e <;> rw [e] <;> exact fit_bool _
/-! ### rows of numbers -/
theorem ints_shaped : ∀ l : List Nat, SeqAt.shaped (.list (l.map fun j => PyData.int (j : Nat))) = true := fun l => by
  have lay : ∀ l : List Nat, PyData.canLayAll0 (l.map fun j => PyData.int (j : Nat)) = true ∧ PyData.depthAll (l.map fun j => PyData.int (j : Nat)) = 0 := by
    intro l
    induction l with
    | nil => exact ⟨by simp [PyData.canLayAll0], by simp [PyData.depthAll]⟩
    | cons c l ih =>
      obtain ⟨i1, i2⟩ := ih
      refine ⟨?_, ?_⟩
      · simp only [List.map_cons, PyData.canLayAll0, PyData.canLay0, i1, Bool.and_self]
      · simp only [List.map_cons, PyData.depthAll, i2, PyData.depth]
        decide
  obtain ⟨l1, l2⟩ := lay l
  unfold SeqAt.shaped
  have e1 : (PyData.list (l.map fun j => PyData.int (j : Nat))).canLay0 = true := by simpa [PyData.canLay0] using l1
  have e2 : (PyData.list (l.map fun j => PyData.int (j : Nat))).depth ≤ 64 := by
    show PyData.depthAll _ + 1 ≤ 64
    rw [l2]
    decide
  rw [e1, decide_eq_true e2]
  rfl
theorem ints_eqv (l : List Nat) : PyData.eqv (.list (l.map fun j => PyData.int (j : Nat))) (.list []) = l.isEmpty := by
  cases l <;> simp [PyData.eqv, PyData.eqvAll]
theorem ints_dats {K : PySem.W.Frag} {H : Hp} : ∀ l : List Nat, DatAll K H (l.map fun j => V.int (j : Nat)) (l.map fun j => PyData.int (j : Nat))
  | [] => .nil
  | j :: l => .cons (.int _) (ints_dats l)
theorem beltsT_shaped {l : List Belt} (h : ∀ m ∈ l, PyData.strOk m.1 = true ∧ PyData.strOk m.2.1 = true) : SeqAt.shaped (.tuple (l.map beltD)) = true := by
  have h1 := belts_shaped h
  unfold SeqAt.shaped at h1 ⊢
  simpa [PyData.canLay0, PyData.depth] using h1
theorem beltsT_eqv (l : List Belt) : PyData.eqv (.tuple (l.map beltD)) (.tuple []) = l.isEmpty := by
  cases l <;> simp [PyData.eqv, PyData.eqvAll]
/-! ### halls, beside the bag -/
theorem offL_but {b : Addr} {G G' : Hp} (bag : BagAt G b) (s : But b G G') : OffL G G' := fun p o e no => by
  refine s.1 p o (fun z => ?_) e
  obtain ⟨x, y, z', c, ns, e1, _⟩ := bag
  rw [z, e1] at e
  injection e with e
  exact no _ e.symm
theorem machs_noList (l : List Mach) : noLists (l.map machD) = true := by
  induction l with
  | nil => rfl
  | cons m l ih =>
    show (noList (machD m) && noLists (l.map machD)) = true
    rw [ih]
    have := purses_noList m.2.2
    show (noLists [.str m.1, .int m.2.1, pursesD m.2.2] && true) = true
    simp only [noLists, noList, this, Bool.and_self]
theorem HallIn.off {K : PySem.W.Frag} {G G' : Hp} {r pm pb : Addr} {h : Hall} {mv bv : List V} (s : OffL G G') (x : HallIn K G r h pm pb mv bv) : HallIn K G' r h pm pb mv bv :=
  ⟨s.t x.r, s.t x.m, strips s (machs_noList _) x.md, s.t x.bl, strips s (belts_noList _) x.bd⟩
/-- drawn halls may be looked at -/
theorem Hall.Ok.seen {h : Hall} (ok : Hall.Ok 4 h) : Seen h := by
  obtain ⟨p, pm, _⟩ := ok.pace
  refine ⟨ok.asc, fun x m => ?_, ok.fl, List.mem_map.mpr ⟨_, pm, rfl⟩, fun m mm => ⟨(ok.bs m mm).2.1, (ok.bs m mm).2.2.1⟩, ok.few, ok.fewB, fun _ x m => ?_, fun m mm => ⟨(ok.ms m mm).2.2.1, (ok.ms m mm).2.2.2⟩⟩
  · obtain ⟨k, mk, rfl⟩ := List.mem_map.mp m
    exact ok.names k mk
  · obtain ⟨k, mk, rfl⟩ := List.mem_map.mp m
    exact ok.joined k mk
/-- one belt exchanged -/
def swapB (h : Hall) (j : Nat) (m : Belt) : Hall := ⟨h.ms, h.bs.take j ++ [m] ++ h.bs.drop (j + 1), h.fl⟩
theorem swap_mem {h : Hall} {j : Nat} {m x : Belt} (mx : x ∈ (swapB h j m).bs) : x ∈ h.bs ∨ x = m := by
  rcases List.mem_append.mp mx with mx | mx
  · rcases List.mem_append.mp mx with mx | mx
    · exact .inl (List.mem_of_mem_take mx)
    · exact .inr (List.mem_singleton.mp mx)
  · exact .inl (List.mem_of_mem_drop mx)
theorem swap_in (h : Hall) (j : Nat) (m : Belt) : m ∈ (swapB h j m).bs := by simp [swapB]
theorem swap_keep {h : Hall} {j : Nat} {m k x : Belt} (e : h.bs[j]? = some k) (mx : x ∈ h.bs) : x ∈ (swapB h j m).bs ∨ x = k := by
  have lt := (List.getElem?_eq_some_iff.mp e).1
  have e1 : h.bs = h.bs.take j ++ [k] ++ h.bs.drop (j + 1) := by
    have e2 : h.bs.take (j + 1) = h.bs.take j ++ [k] := by
      rw [List.take_succ, e]
      rfl
    rw [← e2, List.take_append_drop]
  rw [e1] at mx
  rcases List.mem_append.mp mx with mx | mx
  · rcases List.mem_append.mp mx with mx | mx
    · exact .inl (List.mem_append_left _ (List.mem_append_left _ mx))
    · exact .inr (List.mem_singleton.mp mx)
  · exact .inl (List.mem_append_right _ mx)
theorem swap_seen {h : Hall} (ok : Hall.Ok 4 h) {j : Nat} {k m : Belt} (e : h.bs[j]? = some k) (hm : m = (k.1, k.2.1, k.2.2.1 + 1, k.2.2.2) ∨ m = (k.2.1, k.1, k.2.2.1, k.2.2.2) ∨ m = (k.1, k.2.1, k.2.2.1, 0)) : Seen (swapB h j m) := by
  have s := ok.seen
  have mk : k ∈ h.bs := List.mem_of_getElem? e
  obtain ⟨_, k1, k2, r1, _, _, f1⟩ := ok.bs k mk
  have lt := (List.getElem?_eq_some_iff.mp e).1
  refine ⟨s.asc, s.names, s.fl, s.flin, fun x mx => ?_, s.few, ?_, fun full x mx => ?_, s.ms⟩
  · rcases swap_mem mx with z | z
    · exact s.ends x z
    · rw [z]
      rcases hm with hm | hm | hm <;> rw [hm]
      · exact ⟨k1, k2⟩
      · exact ⟨k2, k1⟩
      · exact ⟨k1, k2⟩
  · have := s.fewB
    show (h.bs.take j ++ [m] ++ h.bs.drop (j + 1)).length ≤ 10
    rw [List.length_append, List.length_append, List.length_take, List.length_drop]
    have e0 : [m].length = 1 := rfl
    omega
  · have fm := full m (swap_in h j m)
    rcases hm with hm | hm | hm
    · rw [hm] at fm
      have fm' : k.2.2.1 + 1 = k.2.2.2 := fm
      omega
    · have r := ok.seen
      obtain ⟨y, my, ey⟩ := List.mem_map.mp mx
      have re : Reach h.bs h.fl x := ey ▸ ok.joined y my
      have h1 : m.1 = k.2.1 ∧ m.2.1 = k.1 := by rw [hm]; exact ⟨rfl, rfl⟩
      clear fm full mx ey my
      induction re with
      | here => exact .here
      | @ahead y b _ mb eb ih =>
        rcases swap_keep (m := m) e mb with z | z
        · exact .ahead ih z eb
        · rw [z, ← h1.1]
          refine .back ih (swap_in h j m) ?_
          rw [h1.2, ← eb, z]
      | @back y b _ mb eb ih =>
        rcases swap_keep (m := m) e mb with z | z
        · exact .back ih z eb
        · rw [z, ← h1.2]
          refine .ahead ih (swap_in h j m) ?_
          rw [h1.1, ← eb, z]
    · rw [hm] at fm
      have fm' : k.2.2.1 = 0 := fm
      omega
end K24

namespace K24
open PySem PySem.Spec PyProof.Rows L2 Vd Evl
/-! ### a tuple with one item exchanged -/
section
variable {K : PySem.W.Frag}
theorem slA_take {a : Addr} {xs : List V} {H : Hp} {Q : VK} {j : Nat} (sq : SqT K H a xs) (lt : j < xs.length) (q : ∀ p, H p = none → Q (.ref p) (upd H p (.tup (xs.take j)))) : rSlA K (.ref a) none (some (j : Int)) H Q := by
  refine ⟨a, xs, rfl, sq, fun w => ?_, fun _ p np => ?_⟩
  · have e2 : HT.sIx xs.length xs.length (some (j : Int)) = j := by
      show (if (j : Int) < 0 then ((j : Int) + (xs.length : Int)).toNat else min (j : Int).toNat xs.length) = j
      rw [if_neg (by omega)]
      omega
    rw [e2] at w
    omega
  · rw [cut_first _ _ (by omega)]
    exact q p np
theorem slA_drop {a : Addr} {xs : List V} {H : Hp} {Q : VK} {j : Nat} (sq : SqT K H a xs) (lt : j < xs.length) (q : ∀ p, H p = none → Q (.ref p) (upd H p (.tup (xs.drop (j + 1))))) : rSlA K (.ref a) (some ((j : Int) + 1)) none H Q := by
  have e1 : HT.sIx xs.length 0 (some ((j : Int) + 1)) = j + 1 := by
    show (if (j : Int) + 1 < 0 then ((j : Int) + 1 + (xs.length : Int)).toNat else min ((j : Int) + 1).toNat xs.length) = j + 1
    rw [if_neg (by omega)]
    omega
  refine ⟨a, xs, rfl, sq, fun w => ?_, fun _ p np => ?_⟩
  · rw [e1] at w
    omega
  · have e3 : cutV xs (some ((j : Int) + 1)) none = xs.drop (j + 1) := by
      unfold cutV
      have e2 : HT.sIx xs.length xs.length none = xs.length := rfl
      rw [e1, e2]
      exact List.take_of_length_le (by rw [List.length_drop]; exact Nat.le_refl _)
    rw [e3]
    exact q p np
theorem catA_any {a b : Addr} {xs ys : List V} {H : Hp} {Q : VK} (ha : SqT K H a xs) (hb : SqT K H b ys) (len : xs.length + ys.length ≤ sizeLine) (q : ∀ p H', Same H H' → SqT K H' p (xs ++ ys) → Q (.ref p) H') : rCatA K (.ref a) (.ref b) H Q := by
  refine ⟨a, b, xs, ys, rfl, rfl, ha, hb, len, fun e => ?_, fun _ e => ?_, fun _ _ p np => q p _ (same_new np) (.inl (.inl upd_same))⟩
  · subst e
    exact q b H (Same.refl H) hb
  · subst e
    exact q a H (Same.refl H) (by rw [List.append_nil]; exact ha)
theorem dats_take {H : Hp} : ∀ {vs : List V} {ds : List PyData} (j : Nat), DatAll K H vs ds → DatAll K H (vs.take j) (ds.take j)
  | _, _, 0, _ => by simpa using DatAll.nil
  | _, _, j + 1, .nil => by simpa using DatAll.nil
  | _, _, j + 1, .cons a r => by
    rw [List.take_succ_cons, List.take_succ_cons]
    exact .cons a (dats_take j r)
theorem dats_drop {H : Hp} : ∀ {vs : List V} {ds : List PyData} (j : Nat), DatAll K H vs ds → DatAll K H (vs.drop j) (ds.drop j)
  | _, _, 0, h => h
  | _, _, j + 1, .nil => by simpa using DatAll.nil
  | _, _, j + 1, .cons a r => by
    rw [List.drop_succ_cons, List.drop_succ_cons]
    exact dats_drop j r
theorem belt_dat {H : Hp} {t : Addr} {m : Belt} (sq : SqT K H t [.str m.1, .str m.2.1, .int m.2.2.1, .int m.2.2.2]) : Dat K H (.ref t) (beltD m) :=
  .tup sq (.cons (.str _) (.cons (.str _) (.cons (.int _) (.cons (.int _) .nil))))
theorem swap_dats {H : Hp} {bv : List V} {h : Hall} {j : Nat} {m : Belt} {v : V} (d : DatAll K H bv (h.bs.map beltD)) (dv : Dat K H v (beltD m)) : DatAll K H (bv.take j ++ [v] ++ bv.drop (j + 1)) ((swapB h j m).bs.map beltD) := by
  show DatAll K H _ ((h.bs.take j ++ [m] ++ h.bs.drop (j + 1)).map beltD)
  rw [List.map_append, List.map_append, List.map_take, List.map_drop]
  exact dats_app (dats_app (dats_take j d) (.cons dv .nil)) (dats_drop (j + 1) d)
end
end K24

namespace K24
open PySem PySem.Spec PyProof.Rows L2 Vd Evl
/-- where all stands -/
structure Txt (K : PySem.W.Frag) (mg : Str → Option Value) where
  fNof : Addr
  fMof : Addr
  fPof : Addr
  fChk : Addr
  fFrm : Addr
  fIT : Addr
  fIL : Addr
  fBH : Addr
  fBsH : Addr
  fWH : Addr
  fBk : Addr
  fTh : Addr
  fBag : Addr
  fTake : Addr
  fSome_ : Addr
  fMix : Addr
  fAlike : Addr
  fLNames : Addr
  fLMach : Addr
  fLPurs : Addr
  fFirst : Addr
  fWeb : Addr
  fLine : Addr
  fTree : Addr
  fLIT : Addr
  fLWay : Addr
  fLSum : Addr
  fLBk : Addr
  fLTh : Addr
  dNof : FuncData
  dMof : FuncData
  dPof : FuncData
  dChk : FuncData
  dFrm : FuncData
  dIT : FuncData
  dIL : FuncData
  dBH : FuncData
  dBsH : FuncData
  dWH : FuncData
  dBk : FuncData
  dTh : FuncData
  dBag : FuncData
  dTake : FuncData
  dSome_ : FuncData
  dMix : FuncData
  dAlike : FuncData
  dLNames : FuncData
  dLMach : FuncData
  dLPurs : FuncData
  dFirst : FuncData
  dWeb : FuncData
  dLine : FuncData
  dTree : FuncData
  dLIT : FuncData
  dLWay : FuncData
  dLSum : FuncData
  dLBk : FuncData
  dLTh : FuncData
  Nof : At K mg "names_of" sNof ["hall"] fNof dNof
  Mof : At K mg "machine_of" sMof ["hall", "name"] fMof dMof
  Pof : At K mg "purses_of" sPof ["hall", "name"] fPof dPof
  Chk : At K mg "check_name" sChk ["hall", "name"] fChk dChk
  Frm : At K mg "belts_from" sFrom ["hall", "name"] fFrm dFrm
  IT : At K mg "is_tree" sIT ["hall"] fIT dIT
  IL : At K mg "is_line" sIL ["hall"] fIL dIL
  BH : At K mg "belt_home" sBH ["hall", "name"] fBH dBH
  BsH : At K mg "belts_home" sBsH ["hall", "name"] fBsH dBsH
  WH : At K mg "way_home" sWH ["hall", "name"] fWH dWH
  Bk : At K mg "back_home" sBk ["hall", "name"] fBk dBk
  Th : At K mg "there_and_back" sTh ["hall", "name"] fTh dTh
  Bag : At K mg "_law_bag" sBag ["script"] fBag dBag
  Take : At K mg "_law_take" sTake ["bag", "many"] fTake dTake
  Some_ : At K mg "_law_some" sSome ["bag", "things"] fSome_ dSome_
  Mix : At K mg "_law_mixed" sMixed ["bag", "things"] fMix dMix
  Alike : At K mg "_law_alike" sAlike ["found", "due"] fAlike dAlike
  LNames : At K mg "_law_names" sLNames ["hall"] fLNames dLNames
  LMach : At K mg "_law_machine" sLMach ["hall", "name"] fLMach dLMach
  LPurs : At K mg "_law_purses" sPur ["bag", "most"] fLPurs dLPurs
  First : At K mg "_law_first" sFirst ["bag", "room"] fFirst dFirst
  Web : At K mg "_law_web" sWeb ["bag", "machines", "most"] fWeb dWeb
  Line : At K mg "_law_line" sLine ["bag", "machines", "most"] fLine dLine
  Tree : At K mg "_law_tree" sTree ["bag", "machines", "most"] fTree dTree
  LIT : At K mg "_law_is_tree" sLIT ["hall"] fLIT dLIT
  LWay : At K mg "_law_way_home" sLWay ["hall", "name"] fLWay dLWay
  LSum : At K mg "_law_sums" sLSum ["hall", "name"] fLSum dLSum
  LBk : At K mg "_law_back_home" sLBk ["hall", "name"] fLBk dLBk
  LTh : At K mg "_law_there" sLTh ["hall", "name"] fLTh dLTh
  mint : mg "int" = none
  mlen : mg "len" = none
  mabs : mg "abs" = none
  mrepr : mg "repr" = none
  mrange : mg "range" = none
  mtuple : mg "tuple" = none
  msorted : mg "sorted" = none
  mall : mg "all" = none
  msum : mg "sum" = none
  mset : mg "set" = none
  menumerate : mg "enumerate" = none
  mzip : mg "zip" = none
abbrev sLaw : Stmt := topS 35
abbrev lawN : List Str := ["script", "bag", "turn", "machines", "hall", "at", "start", "end", "room", "first", "other", "due", "ends", "name", "belts", "told", "one", "belt"]
theorem scLaw : FnScope lawN ["script"] (defScope sLaw) := ⟨rfl, rfl, rfl, by decide +kernel, rfl, by decide +kernel, by decide +kernel⟩
def spLaw (K : PySem.W.Frag) : Sp := fun vs H Q _ => ∃ (a : Addr) (ns : List Int), vs = [.ref a] ∧ SqL K H a (ns.map V.int) ∧ ns.length ≤ 63 ∧ ∀ H', Q (.bl true) H'
/-- the law's names, of no hall yet -/
def Sl0 (a b : Addr) (σ : L2.St) : Prop := ∃ v2 v3 v4 v5 v6 v7 v8 v9 v10 v11 v12 v13 v14 v15 v16 : Option V, σ = [some (.ref a), some (.ref b), v2, v3, v4, v5, v6, v7, v8, v9, v10, v11, v12, v13, v14, v15, v16, none]
def Sl (a b r : Addr) (σ : L2.St) : Prop := ∃ v2 v3 v5 v6 v7 v8 v9 v10 v11 v12 v13 v14 v15 v16 : Option V, σ = [some (.ref a), some (.ref b), v2, v3, some (.ref r), v5, v6, v7, v8, v9, v10, v11, v12, v13, v14, v15, v16, none]
theorem del_sub {b : Addr} {G : Hp} : ∀ p o, del G b p = some o → G p = some o := fun p o e => by
  by_cases z : p = b
  · rw [z, del_same] at e
    cases e
  · rwa [del_ne z] at e
theorem HallIn.ofDt {K : PySem.W.Frag} {b r : Addr} {G : Hp} {h : Hall} (d : Dt K b G (.ref r) (hallD h)) : ∃ pm pb mv bv, HallIn K G r h pm pb mv bv := HallIn.of (Dat.up del_sub d)
section
variable {P : Program} {w : World} {K : PySem.W.Frag} {mg : Str → Option Value} {base : Heap}
theorem ok_law {f : Addr} {fd : FuncData} (F : Fun K "law" "law" sLaw f fd) (T : Txt K mg) : FnG P w K mg base 8 f fd ["script"] (spLaw K) := by
  have GBag : FnOk P w K mg base CX0 1 T.fBag T.dBag ["script"] (spBag K) := ok_bag T.Bag.fn T.mabs
  have GSome : FnOk P w K mg base CX0 2 T.fSome_ T.dSome_ ["bag", "things"] (spSome K) := ok_some T.Some_ T.Take T.mint T.mlen
  have GTake : FnOk P w K mg base CX0 1 T.fTake T.dTake ["bag", "many"] spTake := ok_take T.Take.fn T.mint
  have GTree : FnOk P w K mg base CX0 4 T.fTree T.dTree ["bag", "machines", "most"] (spDrawn K) := ok_tree T.Tree T.Take T.Some_ T.Mix T.LPurs T.mint T.mlen T.mtuple T.mrange T.msorted
  have GLine : FnOk P w K mg base CX0 4 T.fLine T.dLine ["bag", "machines", "most"] (spDrawn K) := ok_line T.Line T.Take T.Some_ T.Mix T.LPurs T.mint T.mlen T.mtuple T.mrange T.msorted T.mzip
  have GWeb : FnOk P w K mg base CX0 4 T.fWeb T.dWeb ["bag", "machines", "most"] (spWeb K) := ok_web T.Web T.Take T.Some_ T.Mix T.LPurs T.First T.mint T.mlen T.mtuple T.mrange T.msorted
  have GIT : FnOk P w K mg base CX0 2 T.fIT T.dIT ["hall"] (spIT K) := ok_it T.IT T.Nof T.mtuple T.msorted T.mall
  have GIL : FnOk P w K mg base CX0 3 T.fIL T.dIL ["hall"] (spIL K) := ok_il T.IL T.IT T.Nof T.mtuple T.msorted T.mall T.mset T.mlen
  have GLIT : FnOk P w K mg base CX0 2 T.fLIT T.dLIT ["hall"] (spIT K) := ok_lit T.LIT T.LNames T.msorted
  have GLNames : FnOk P w K mg base CX0 1 T.fLNames T.dLNames ["hall"] (spLNames K) := ok_lnames T.LNames
  have GLWay : FnOk P w K mg base CX0 1 T.fLWay T.dLWay ["hall", "name"] (spWay K) := ok_lway T.LWay T.menumerate
  have GBH : FnOk P w K mg base CX0 4 T.fBH T.dBH ["hall", "name"] (spBH K) := ok_bh T.BH T.Frm T.Chk T.Nof T.mtuple T.menumerate
  have GWH : FnOk P w K mg base CX0 6 T.fWH T.dWH ["hall", "name"] (spWH K) := ok_wh T.WH T.BsH T.BH T.Frm T.Chk T.Nof T.mtuple T.menumerate
  have GBk : FnOk P w K mg base CX0 7 T.fBk T.dBk ["hall", "name"] (spBk K) := ok_bk T.Bk T.WH T.BsH T.BH T.Frm T.Chk T.Nof T.Pof T.Mof T.mtuple T.menumerate T.msum
  have GTh : FnOk P w K mg base CX0 6 T.fTh T.dTh ["hall", "name"] (spTh K) := ok_th T.Th T.BsH T.BH T.Frm T.Chk T.Nof T.mtuple T.menumerate
  have GLBk : FnOk P w K mg base CX0 3 T.fLBk T.dLBk ["hall", "name"] (spBk K) := ok_lbk T.LBk T.LWay T.LSum T.LMach T.menumerate T.msum
  have GLTh : FnOk P w K mg base CX0 2 T.fLTh T.dLTh ["hall", "name"] (spTh K) := ok_lth T.LTh T.LWay T.mtuple T.menumerate
  have GAlike : FnG P w K mg base 1 T.fAlike T.dAlike ["found", "due"] (spAlike K) := ok_alike T.Alike T.mrepr
  have bt : bootBuiltins "tuple" = some (.type "tuple") := by decide +kernel
  have bset : bootBuiltins "set" = some (.type "set") := by decide +kernel
  have nd := scLaw.nd
  refine okG F scLaw (fun vs H Q E h => ?_) (fun cdv A outer s H vs Q E hr gd h => ?_)
  · obtain ⟨a, ns, rfl, _⟩ := h
    rfl
  · obtain ⟨a, ns, rfl, sq, few, fin⟩ := h
    have hr1 : Room 1 _ := hr.mono (by decide)
    have hr2 : Room 2 _ := hr.mono (by decide)
    have hr3 : Room 3 _ := hr.mono (by decide)
    have hr4 : Room 4 _ := hr.mono (by decide)
    have hr6 : Room 6 _ := hr.mono (by decide)
    refine ⟨_, pss_cons (ps_set (i := 1) nd rfl (Or.inl rfl) (pe_call GBag hr1 (by rfl) T.Bag.g T.Bag.fn.kp T.Bag.b .nil pass0 (pa_cons (pv 0) pa_nil)))
      (pss_cut (ps_for PassesOwn.never rfl (pi_range1 (by rfl) T.mrange (pa_cons pe_int pa_nil)) (pg_name (i := 2) nd rfl (Or.inl rfl))
        (pss_cons (ps_set (i := 3) nd rfl (Or.inl rfl) (pe_call GSome hr2 (by rfl) T.Some_.g T.Some_.fn.kp T.Some_.b .nil pass0 (pa_cons (pv 1) (pa_cons (pe_lst (pa_cons pe_int (pa_cons pe_int (pa_cons pe_int (pa_cons pe_int (pa_cons pe_int (pa_cons pe_int pa_nil))))))) pa_nil))))
        (pss_cut (ps_set (i := 4) nd rfl (Or.inr rfl) (pe_call GSome hr2 (by rfl) T.Some_.g T.Some_.fn.kp T.Some_.b .nil pass0 (pa_cons (pv 1) (pa_cons (pe_lst
            (pa_cons (pe_call GTree hr4 (by rfl) T.Tree.g T.Tree.fn.kp T.Tree.b .nil pass0 (pa_cons (pv 1) (pa_cons (pv 3) (pa_cons pe_int pa_nil))))
            (pa_cons (pe_call GLine hr4 (by rfl) T.Line.g T.Line.fn.kp T.Line.b .nil pass0 (pa_cons (pv 1) (pa_cons (pv 3) (pa_cons pe_int pa_nil))))
            (pa_cons (pe_call GWeb hr4 (by rfl) T.Web.g T.Web.fn.kp T.Web.b .nil pass0 (pa_cons (pv 1) (pa_cons (pv 3) (pa_cons pe_int pa_nil)))) pa_nil)))) pa_nil))))
        (pss_cut (ps_if (PW.pt (pw_and (pt_cmpR op_eq (pe_call GTake hr1 (by rfl) T.Take.g T.Take.fn.kp T.Take.b .nil pass0 (pa_cons (pv 1) (pa_cons pe_int pa_nil))) pe_int (nomark _))
              (pw_and1 (pt_cmpR (op_neG hr.units) (pe_ix ix_tup (pv 4) pe_int (fun _ _ => rfl)) (pe_tup pa_nil) (nomark _)))))
            (pss_cons (ps_set (i := 5) nd rfl (Or.inl rfl) (pe_call GTake hr1 (by rfl) T.Take.g T.Take.fn.kp T.Take.b .nil pass0 (pa_cons (pv 1) (pa_cons (pe_callB call_len_seq (by rfl) T.mlen PySem.boot_len (pa_cons (pe_ix ix_tup (pv 4) pe_int (fun _ _ => rfl)) pa_nil)) pa_nil))))
            (pss_cons (ps_asg (pe_ix ix_tup (pe_ix ix_tup (pv 4) pe_int (fun _ _ => rfl)) (pv 5) (fun _ _ => rfl)) (pg_tup rfl (pgs_cons (pg_name (i := 6) nd rfl (Or.inl rfl)) (pgs_cons (pg_name (i := 7) nd rfl (Or.inl rfl)) (pgs_cons (pg_name (i := 8) nd rfl (Or.inl rfl)) (pgs_cons (pg_name (i := 9) nd rfl (Or.inl rfl)) pgs_nil))))))
            (pss_cut (ps_set (i := 10) nd rfl (Or.inl rfl) (pe_call GSome hr2 (by rfl) T.Some_.g T.Some_.fn.kp T.Some_.b .nil pass0 (pa_cons (pv 1) (pa_cons (pe_lst
                (pa_cons (pe_tup (pa_cons (pv 6) (pa_cons (pv 7) (pa_cons (pe_op op_add (pv 8) pe_int) (pa_cons (pv 9) pa_nil)))))
                (pa_cons (pe_tup (pa_cons (pv 7) (pa_cons (pv 6) (pa_cons (pv 8) (pa_cons (pv 9) pa_nil)))))
                (pa_cons (pe_tup (pa_cons (pv 6) (pa_cons (pv 7) (pa_cons (pv 8) (pa_cons pe_int pa_nil))))) pa_nil)))) pa_nil))))
            (pss_one (ps_set (i := 4) nd rfl (Or.inr rfl) (pe_tup (pa_cons (pe_ix ix_tup (pv 4) pe_int (fun _ _ => rfl))
              (pa_cons (pe_op op_catA (pe_op op_catA (pe_slice sl_tupA (pe_ix ix_tup (pv 4) pe_int (fun _ _ => rfl)) po_none (po_some (pv 5))) (pe_tup (pa_cons (pv 10) pa_nil)))
                (pe_slice sl_tupA (pe_ix ix_tup (pv 4) pe_int (fun _ _ => rfl)) (po_some (pe_op op_add (pv 5) pe_int)) po_none))
              (pa_cons (pe_ix ix_tup (pv 4) pe_int (fun _ _ => rfl)) pa_nil)))))))))
            pss_nil)
        (pss_cut (ps_par (i := 11) (j := 12) (by rfl) nd rfl rfl (by decide) rfl rfl (pa_cons (pe_call GLIT hr2 (by rfl) T.LIT.g T.LIT.fn.kp T.LIT.b .nil pass0 (pa_cons (pv 4) pa_nil))
            (pa_cons (pe_lc (own := [("belt", 17)]) (g := gName 17) (tt := tYes) rfl nd (pi_tup (pe_ix ix_tup (pv 4) pe_int (fun _ _ => rfl))) (blkOk_by (N := lawN) (sc := defScope sLaw) (by decide +kernel))
              (fun _ _ _ _ _ => pg_name (i := 17) nd rfl (Or.inl rfl)) (fun _ _ _ _ _ => pts_nil) (fun _ _ _ _ _ => pe_ix (r := rIxT K) ix_tup (pv 17) pe_int (fun _ _ => rfl))) pa_nil)) (by rfl))
        (pss_cut (ps_if (pt_not (pt_val (callG GAlike hr1 gd (by rfl) T.Alike.g T.Alike.fn.kp T.Alike.b
            (pa_cons (pe_lst (pa_cons (pe_call GIT hr2 (by rfl) T.IT.g T.IT.fn.kp T.IT.b .nil pass0 (pa_cons (pv 4) pa_nil)) (pa_cons (pe_call GIL hr3 (by rfl) T.IL.g T.IL.fn.kp T.IL.b .nil pass0 (pa_cons (pv 4) pa_nil)) pa_nil)))
            (pa_cons (pe_lst (pa_cons (pv 11) (pa_cons (pe_and (pv 11) (pe_one (pe_cmpR op_eq (pe_callB call_lenM (by rfl) T.mlen PySem.boot_len (pa_cons (pe_callTy (cr_setK rfl) (by rfl) T.mset bset (pa_cons (pv 12) pa_nil)) pa_nil))
              (pe_callB call_len_seq (by rfl) T.mlen PySem.boot_len (pa_cons (pv 12) pa_nil)) (nomark _)))) pa_nil))) pa_nil))))) pss_never pss_nil)
        (pss_one (ps_for PassesOwn.never rfl (pi_list (pe_ifExp (pt_val (pv 11)) (pe_call GLNames hr1 (by rfl) T.LNames.g T.LNames.fn.kp T.LNames.b .nil pass0 (pa_cons (pv 4) pa_nil)) (pe_lst pa_nil))) (pg_name (i := 13) nd rfl (Or.inl rfl))
          (pss_cons (ps_set (i := 14) nd rfl (Or.inl rfl) (pe_call GLWay hr1 (by rfl) T.LWay.g T.LWay.fn.kp T.LWay.b .nil pass0 (pa_cons (pv 4) (pa_cons (pv 13) pa_nil))))
          (pss_cut (ps_set (i := 15) nd rfl (Or.inl rfl) (pe_lst (pa_cons (pe_call GBH hr4 (by rfl) T.BH.g T.BH.fn.kp T.BH.b .nil pass0 (pa_cons (pv 4) (pa_cons (pv 13) pa_nil)))
              (pa_cons (pe_call GWH hr6 (by rfl) T.WH.g T.WH.fn.kp T.WH.b .nil pass0 (pa_cons (pv 4) (pa_cons (pv 13) pa_nil)))
              (pa_cons (pe_call GBk hr (by rfl) T.Bk.g T.Bk.fn.kp T.Bk.b .nil pass0 (pa_cons (pv 4) (pa_cons (pv 13) pa_nil))) pa_nil)))))
          (pss_cut (ps_set (i := 16) nd rfl (Or.inl rfl) (pe_lst (pa_cons (pe_ifExp (pt_cmpR (op_neG hr.units) (pv 14) (pe_lst pa_nil) (nomark _)) (pe_ix ix_list (pv 14) pe_int (fun _ _ => rfl)) pe_non)
              (pa_cons (pe_callTy call_tuple_of (by rfl) T.mtuple bt (pa_cons (pe_lc (own := [("at", 5)]) (g := gName 5) (tt := tYes) rfl nd (pi_list (pv 14)) (blkOk_by (N := lawN) (sc := defScope sLaw) (by decide +kernel))
                (fun _ _ _ _ _ => pg_name (i := 5) nd rfl (Or.inl rfl)) (fun _ _ _ _ _ => pts_nil)
                (fun _ _ _ _ _ => pe_ix (r := rIxT K) ix_tup (pe_ix (r := rIxT K) ix_tup (pe_ix (r := rIxT K) ix_tup (pv 4) pe_int (fun _ _ => rfl)) (pv 5) (fun _ _ => rfl)) pe_int (fun _ _ => rfl))) pa_nil))
              (pa_cons (pe_call GLBk hr3 (by rfl) T.LBk.g T.LBk.fn.kp T.LBk.b .nil pass0 (pa_cons (pv 4) (pa_cons (pv 13) pa_nil))) pa_nil)))))
          (pss_cut (ps_if (pt_not (pt_val (callG GAlike hr1 gd (by rfl) T.Alike.g T.Alike.fn.kp T.Alike.b (pa_cons (pv 15) (pa_cons (pv 16) pa_nil))))) pss_never pss_nil)
          (pss_one (ps_if (PW.pt (pw_and (pt_cmpR op_ne (pv 13) (pe_ix ix_tup (pv 4) pe_int (fun _ _ => rfl)) (nomark _))
            (pw_and1 (pt_not (pt_val (callG GAlike hr1 gd (by rfl) T.Alike.g T.Alike.fn.kp T.Alike.b (pa_cons (pe_call GTh hr6 (by rfl) T.Th.g T.Th.fn.kp T.Th.b .nil pass0 (pa_cons (pv 4) (pa_cons (pv 13) pa_nil)))
              (pa_cons (pe_call GLTh hr2 (by rfl) T.LTh.g T.LTh.fn.kp T.LTh.b .nil pass0 (pa_cons (pv 4) (pa_cons (pv 13) pa_nil))) pa_nil)))))))) pss_never pss_nil))))))))))))))
      (pss_one (ps_ret pe_bl))), ?_⟩
    refine ⟨_, rfl, a, ns, rfl, sq, few, fun G1 b s1 b0 bag1 => ?_⟩
    refine ⟨fun σ' G => Sl0 a b σ' ∧ BagAt G b, ?_, ?_⟩
    · refine ⟨5, rfl, by decide, by decide, ?_⟩
      refine for_range (lo := 0) (n := 5) (fun i σ' G => Sl0 a b σ' ∧ BagAt G b) ⟨⟨none, none, none, none, none, none, none, none, none, none, none, none, none, none, none, rfl⟩, bag1⟩ ?_ (fun σ' G p => p)
      rintro i _ G lt ⟨⟨v2, v3, v4, v5, v6, v7, v8, v9, v10, v11, v12, v13, v14, v15, v16, rfl⟩, bag⟩
      refine ⟨_, rfl, len_line (by show 6 ≤ 100000; decide), fun p np => ?_⟩
      have pb := (But.free (But.refl b G) bag np).1
      refine ⟨b, p, _, rfl, bag.new np, .inl (SqL.of upd_same), pb, by show 0 < 6; decide, by show 6 < 1073741824; decide, fun G2 v mem but2 bag2 => ?_⟩
      obtain ⟨many, rfl, m5⟩ : ∃ many : Nat, v = .int (many : Nat) ∧ many ≤ 5 := by
        simp only [List.mem_cons, List.not_mem_nil, or_false] at mem
        rcases mem with e | e | e | e | e | e
        · exact ⟨3, e, by decide⟩
        · exact ⟨5, e, by decide⟩
        · exact ⟨2, e, by decide⟩
        · exact ⟨0, e, by decide⟩
        · exact ⟨4, e, by decide⟩
        · exact ⟨1, e, by decide⟩
      clear but2 mem np pb p bag
      -- a hall
      refine ⟨fun σ' G' => ∃ (r : Addr) (h : Hall), Sl a b r σ' ∧ BagAt G' b ∧ Hall.Ok 4 h ∧ Dt K b G' (.ref r) (hallD h), ?_, ?_⟩
      · refine ⟨_, rfl, _, rfl, _, rfl, b, many, 4, rfl, bag2, by omega, by decide, by decide, fun Ga r1 h1 buta _ _ d1 ok1 _ => ?_⟩
        have baga := bag2.but buta
        refine ⟨_, rfl, _, rfl, b, many, 4, rfl, baga, by omega, by decide, by decide, fun Gb r2 h2 butb _ _ d2 ok2 _ => ?_⟩
        have bagb := baga.but butb
        refine ⟨_, rfl, _, rfl, b, many, 4, rfl, bagb, by omega, by decide, by decide, fun Gc r3 h3 butc _ _ d3 ok3 _ => ?_⟩
        have bagc := bagb.but butc
        refine ⟨len_line (by show 3 ≤ 100000; decide), fun p np => ?_⟩
        have pb := (But.free (But.refl b Gc) bagc np).1
        refine ⟨b, p, _, rfl, bagc.new np, .inl (SqL.of upd_same), pb, by show 0 < 3; decide, by show 3 < 1073741824; decide, fun G3 v mem but3 bag3 => ?_⟩
        have s3 : But b Gc G3 := (But.of (same_new np)).trans but3
        simp only [List.mem_cons, List.not_mem_nil, or_false] at mem
        rcases mem with e | e | e
        · subst e
          exact ⟨r1, h1, ⟨_, _, _, _, _, _, _, _, _, _, _, _, _, _, rfl⟩, bag3, ok1, ((d1.but butb).but butc).but s3⟩
        · subst e
          exact ⟨r2, h2, ⟨_, _, _, _, _, _, _, _, _, _, _, _, _, _, rfl⟩, bag3, ok2, (d2.but butc).but s3⟩
        · subst e
          exact ⟨r3, h3, ⟨_, _, _, _, _, _, _, _, _, _, _, _, _, _, rfl⟩, bag3, ok3, d3.but s3⟩
      rintro _ G3 ⟨r, h, ⟨v2, v3, v5, v6, v7, v8, v9, v10, v11, v12, v13, v14, v15, v16, rfl⟩, bag3, ok, dt⟩
      obtain ⟨pm, pb, mv, bv, at_h⟩ := HallIn.ofDt dt
      clear bag2 m5 dt G2 many
      -- maybe with one belt exchanged
      refine ⟨fun σ' G' => ∃ (r : Addr) (h : Hall) (pm pb : Addr) (mv bv : List V), Sl a b r σ' ∧ BagAt G' b ∧ Seen h ∧ HallIn K G' r h pm pb mv bv, ?_, ?_⟩
      · refine ⟨_, rfl, b, 4, rfl, bag3, by decide, by decide, fun G4 v but4 bag4 v0 v4 => ?_⟩
        have at_4 := at_h.off (offL_but bag3 but4)
        have stay : ∀ {σ' : L2.St} {G' : Hp}, Sl a b r σ' → OffL G4 G' → BagAt G' b → ∃ (r : Addr) (h : Hall) (pm pb : Addr) (mv bv : List V), Sl a b r σ' ∧ BagAt G' b ∧ Seen h ∧ HallIn K G' r h pm pb mv bv :=
          fun sl s bag => ⟨r, h, pm, pb, mv, bv, sl, bag, ok.seen, at_4.off s⟩
        refine ⟨rfl, _, rfl, ite2 (fun c1 => ?_) (fun c1 => ?_)⟩
        · refine ⟨_, rfl, r, _, 1, _, rfl, rfl, at_4.r, atI_nat (j := 1) rfl, len_line (by show 0 ≤ 100000; decide), fun t0 nt0 => ?_⟩
          have s5 := same_new (o := .tup []) nt0
          have at_5 := at_4.up s5
          refine ⟨.tuple (h.bs.map beltD), .tuple [], .tup at_5.bl at_5.bd, .tup (.inl (.inl upd_same)) .nil, beltsT_shaped fun m mm => ?_, by decide +kernel, ?_⟩
          · have := ok.seen.ends m mm
            exact ⟨(ok.seen.okS _ this.1).1, (ok.seen.okS _ this.2).1⟩
          rw [beltsT_eqv]
          have bag5 : BagAt (upd G4 t0 (.tup [])) b := bag4.new nt0
          generalize upd G4 t0 (.tup []) = G5 at s5 at_5 bag5
          refine ⟨_, rfl, ite2 (fun c2 => ?_) (fun c2 => ?_)⟩
          · have ne : h.bs ≠ [] := fun z => by
              rw [z] at c2
              cases c2
            have pos : 0 < h.bs.length := List.length_pos_iff.mpr ne
            have bl := at_5.blen
            have fewB := ok.seen.fewB
            refine ⟨_, rfl, _, rfl, r, _, 1, _, rfl, rfl, at_5.r, atI_nat (j := 1) rfl, pb, bv, rfl, .inr at_5.bl, b, (bv.length : Nat), rfl, bag5, by omega, by omega, fun G6 v but6 bag6 v0 v1 => ?_⟩
            obtain ⟨j, rfl⟩ : ∃ j : Nat, v = (j : Int) := ⟨v.toNat, by omega⟩
            have lt : j < bv.length := by omega
            have at_6 := at_5.off (offL_but bag5 but6)
            have hv : bv[j]? = some bv[j] := List.getElem?_eq_getElem lt
            obtain ⟨k, t, ek, et, sqt⟩ := belt_at j _ at_6.bd hv
            rw [et] at hv
            refine ⟨_, rfl, r, _, 1, _, rfl, rfl, at_6.r, atI_nat (j := 1) rfl, _, rfl, pb, _, (j : Nat), _, rfl, rfl, at_6.bl, atI_nat hv, t, _, rfl, sqt, rfl, _, _, rfl, _, _, rfl, _, _, rfl, _, _, rfl, rfl, ?_⟩
            refine ⟨fun σ' G' => ∃ (o : Addr) (m : Belt), σ' = ([some (.ref a), some (.ref b), v2, v3, some (.ref r), some (.int (j : Nat)), some (.str k.1), some (.str k.2.1), some (.int k.2.2.1), some (.int k.2.2.2), some (.ref o), v11, v12, v13, v14, v15, v16, none] : L2.St) ∧
              BagAt G' b ∧ HallIn K G' r h pm pb mv bv ∧ SqT K G' o [.str m.1, .str m.2.1, .int m.2.2.1, .int m.2.2.2] ∧ (m = (k.1, k.2.1, k.2.2.1 + 1, k.2.2.2) ∨ m = (k.2.1, k.1, k.2.2.1, k.2.2.2) ∨ m = (k.1, k.2.1, k.2.2.1, 0)), ?_, ?_⟩
            · refine ⟨_, rfl, _, rfl, _, rfl, _, rfl, _, _, rfl, rfl, _, rfl, len_line (by show 4 ≤ 100000; decide), fun t1 n1 => ?_⟩
              have sa := same_new (o := .tup [.str k.1, .str k.2.1, .int (k.2.2.1 + 1), .int k.2.2.2]) n1
              have at1 : upd G6 t1 (.tup [.str k.1, .str k.2.1, .int (k.2.2.1 + 1), .int k.2.2.2]) t1 = some (.tup [.str k.1, .str k.2.1, .int (k.2.2.1 + 1), .int k.2.2.2]) := upd_same
              have baga := bag6.new (o := .tup [.str k.1, .str k.2.1, .int (k.2.2.1 + 1), .int k.2.2.2]) n1
              generalize upd G6 t1 (.tup [.str k.1, .str k.2.1, .int (k.2.2.1 + 1), .int k.2.2.2]) = Ga at sa at1 baga
              refine ⟨_, rfl, _, rfl, _, rfl, _, rfl, len_line (by show 4 ≤ 100000; decide), fun t2 n2 => ?_⟩
              have sb := same_new (o := .tup [.str k.2.1, .str k.1, .int k.2.2.1, .int k.2.2.2]) n2
              have at2 : upd Ga t2 (.tup [.str k.2.1, .str k.1, .int k.2.2.1, .int k.2.2.2]) t2 = some (.tup [.str k.2.1, .str k.1, .int k.2.2.1, .int k.2.2.2]) := upd_same
              have bagb := baga.new (o := .tup [.str k.2.1, .str k.1, .int k.2.2.1, .int k.2.2.2]) n2
              generalize upd Ga t2 (.tup [.str k.2.1, .str k.1, .int k.2.2.1, .int k.2.2.2]) = Gb at sb at2 bagb
              refine ⟨_, rfl, _, rfl, _, rfl, len_line (by show 4 ≤ 100000; decide), fun t3 n3 => ?_⟩
              have sc := same_new (o := .tup [.str k.1, .str k.2.1, .int k.2.2.1, .int 0]) n3
              have at3 : upd Gb t3 (.tup [.str k.1, .str k.2.1, .int k.2.2.1, .int 0]) t3 = some (.tup [.str k.1, .str k.2.1, .int k.2.2.1, .int 0]) := upd_same
              have bagc := bagb.new (o := .tup [.str k.1, .str k.2.1, .int k.2.2.1, .int 0]) n3
              generalize upd Gb t3 (.tup [.str k.1, .str k.2.1, .int k.2.2.1, .int 0]) = Gc at sc at3 bagc
              refine ⟨len_line (by show 3 ≤ 100000; decide), fun p np => ?_⟩
              have pb' := (But.free (But.refl b Gc) bagc np).1
              refine ⟨b, p, _, rfl, bagc.new np, .inl (SqL.of upd_same), pb', by show 0 < 3; decide, by show 3 < 1073741824; decide, fun Gd v mem butd bagd => ?_⟩
              have sd : OffL Gc Gd := offL_but bagc ((But.of (same_new np)).trans butd)
              have at_d := ((((at_6.up sa).up sb).up sc).off sd)
              have e1 := sd _ _ (sc _ _ (sb _ _ at1)) fun xs z => by cases z
              have e2 := sd _ _ (sc _ _ at2) fun xs z => by cases z
              have e3 := sd _ _ at3 fun xs z => by cases z
              simp only [List.mem_cons, List.not_mem_nil, or_false] at mem
              rcases mem with e | e | e
              · subst e
                exact ⟨t1, (k.1, k.2.1, k.2.2.1 + 1, k.2.2.2), rfl, bagd, at_d, .inl (.inl e1), .inl rfl⟩
              · subst e
                exact ⟨t2, (k.2.1, k.1, k.2.2.1, k.2.2.2), rfl, bagd, at_d, .inl (.inl e2), .inr (.inl rfl)⟩
              · subst e
                exact ⟨t3, (k.1, k.2.1, k.2.2.1, 0), rfl, bagd, at_d, .inl (.inl e3), .inr (.inr rfl)⟩
            rintro _ G7 ⟨o, m, rfl, bag7, at_7, sqo, hm⟩
            have tk : (bv.take j).length = j := by
              rw [List.length_take]
              omega
            have dr : (bv.drop (j + 1)).length ≤ 10 := by
              rw [List.length_drop]
              omega
            refine ⟨_, rfl, r, _, 0, _, rfl, rfl, at_7.r, atI_nat (j := 0) rfl, ?_⟩
            refine ⟨_, rfl, r, _, 1, _, rfl, rfl, at_7.r, atI_nat (j := 1) rfl, ?_⟩
            dsimp only [tNoPart]
            refine ⟨_, rfl, (j : Int), rfl, ?_⟩
            refine slA_take at_7.bl lt fun l1 nl1 => ?_
            have sa := same_new (o := .tup (bv.take j)) nl1
            have q1 : SqT K (upd G7 l1 (.tup (bv.take j))) l1 (bv.take j) := .inl (.inl upd_same)
            have baga := bag7.new (o := .tup (bv.take j)) nl1
            generalize upd G7 l1 (.tup (bv.take j)) = Ga at sa q1 baga
            refine ⟨_, rfl, len_line (by show 1 ≤ 100000; decide), fun l2 nl2 => ?_⟩
            have sb := same_new (o := .tup [.ref o]) nl2
            have q2 : SqT K (upd Ga l2 (.tup [.ref o])) l2 [.ref o] := .inl (.inl upd_same)
            generalize upd Ga l2 (.tup [.ref o]) = Gb at sb q2
            refine catA_any (sqt_up sb q1) q2 (len_line (by rw [tk]; show j + 1 ≤ 100000; omega)) fun l3 Gc sc q3 => ?_
            have sac := (sa.trans sb).trans sc
            have at_c := at_7.up sac
            refine ⟨_, rfl, r, _, 1, _, rfl, rfl, at_c.r, atI_nat (j := 1) rfl, ?_⟩
            refine ⟨_, rfl, _, _, rfl, rfl, _, rfl, ?_⟩
            dsimp only [tNoPart]
            refine slA_drop at_c.bl lt fun l4 nl4 => ?_
            have sd := same_new (o := .tup (bv.drop (j + 1))) nl4
            have q4 : SqT K (upd Gc l4 (.tup (bv.drop (j + 1)))) l4 (bv.drop (j + 1)) := .inl (.inl upd_same)
            generalize upd Gc l4 (.tup (bv.drop (j + 1))) = Gd at sd q4
            refine catA_any (sqt_up sd q3) q4 (len_line (by rw [List.length_append, tk]; show j + 1 + _ ≤ 100000; omega)) fun l5 Ge se q5 => ?_
            have sae := ((sac.trans sd).trans se)
            have at_e := at_7.up sae
            refine ⟨_, rfl, r, _, 2, _, rfl, rfl, at_e.r, atI_nat (j := 2) rfl, len_line (by show 3 ≤ 100000; decide), fun r2 nr2 => ?_⟩
            have sf := same_new (o := .tup [.ref pm, .ref l5, .str h.fl]) nr2
            have at_f := at_e.up sf
            exact ⟨r2, swapB h j m, pm, l5, mv, bv.take j ++ [V.ref o] ++ bv.drop (j + 1), ⟨_, _, _, _, _, _, _, _, _, _, _, _, _, _, rfl⟩, bag7.but (But.of (sae.trans sf)), swap_seen ok ek hm,
              ⟨.inl (.inl upd_same), at_f.m, at_f.md, sqt_up sf q5, swap_dats at_f.bd (belt_dat (sqt_up (sae.trans sf) sqo))⟩⟩
          · exact stay ⟨_, _, _, _, _, _, _, _, _, _, _, _, _, _, rfl⟩ (fun p o e _ => s5 p o e) bag5
        · exact stay ⟨_, _, _, _, _, _, _, _, _, _, _, _, _, _, rfl⟩ (fun p o e _ => e) bag4
      rintro _ G6 ⟨r, h, pm, pb, mv, bv, ⟨v2, v3, v5, v6, v7, v8, v9, v10, v11, v12, v13, v14, v15, v16, rfl⟩, bag, seen, at_h⟩
      have fewB := seen.fewB
      have elen : (endsH h).length = h.bs.length := List.length_map ..
      -- a tree, the ends
      refine ⟨fun σ' G' => ∃ (due : Bool) (e : Addr), σ' = ([some (.ref a), some (.ref b), v2, v3, some (.ref r), v5, v6, v7, v8, v9, v10, some (.bl due), some (.ref e), v13, v14, v15, v16, none] : L2.St) ∧ (due = true ↔ treeH h) ∧ Same G6 G' ∧ G' e = some (.lst ((endsH h).map V.str)), ?_, ?_⟩
      · refine ⟨_, rfl, r, pm, pb, mv, bv, h, rfl, at_h, seen, fun G7 due s7 iff => ?_⟩
        have at_7 := at_h.up s7
        refine ⟨_, rfl, r, _, 1, _, rfl, rfl, at_7.r, atI_nat (j := 1) rfl, pb, rfl, ⟨_, at_7.bl⟩, fun D nD => ?_⟩
        refine lc_tup (K := K) (a := pb) (xs := bv) (fun i G => Same G7 G ∧ G D = some (.lst (((endsH h).take i).map V.str))) ⟨same_new nD, upd_same⟩ (fun i G _ ⟨s, _⟩ => sqt_up s at_7.bl) ?_ ?_
        · rintro i v G at_i ⟨s, at_D⟩
          obtain ⟨m, t, em, rfl, sqt⟩ := belt_at i v at_7.bd at_i
          refine ⟨rfl, _, rfl, t, _, 1, _, rfl, rfl, sqt_up s sqt, atI_nat (j := 1) rfl, _, at_D, small1000 ?_, same_set s nD, ?_⟩
          · rw [List.length_map, List.length_take]
            omega
          · unfold endsH
            rw [upd_same, List.take_succ, List.getElem?_map, em, List.map_append]
            rfl
        rintro G8 ⟨s8, at_D⟩
        rw [List.take_of_length_le (by rw [at_h.blen, elen]; exact Nat.le_refl _)] at at_D
        exact ⟨_, _, rfl, due, D, rfl, iff, s7.trans s8, at_D⟩
      rintro _ G7 ⟨due, e, rfl, iff, s7, at_e⟩
      have at_7 := at_h.up s7
      -- alike
      refine ⟨fun σ' G' => σ' = ([some (.ref a), some (.ref b), v2, v3, some (.ref r), v5, v6, v7, v8, v9, v10, some (.bl due), some (.ref e), v13, v14, v15, v16, none] : L2.St) ∧ Same G7 G', ?_, ?_⟩
      · refine ⟨_, rfl, r, pm, pb, mv, bv, h, rfl, at_7, seen, fun Ga t1 sa i1 => ?_⟩
        have at_a := at_7.up sa
        refine ⟨_, rfl, r, pm, pb, mv, bv, h, rfl, at_a, seen, fun Gb t2 sb i2 => ?_⟩
        have at_b := at_a.up sb
        refine ⟨len_line (by show 2 ≤ 100000; decide), fun p1 np1 => ?_⟩
        have sc := same_new (o := .lst [.bl t1, .bl t2]) np1
        have at_p1 : upd Gb p1 (.lst [.bl t1, .bl t2]) p1 = some (.lst [.bl t1, .bl t2]) := upd_same
        generalize upd Gb p1 (.lst [.bl t1, .bl t2]) = Gc at sc at_p1
        have e1 : t1 = due := by
          rw [Bool.eq_iff_iff, i1, iff]
        have done : ∀ (G' : Hp) (t3 : Bool), Same Gc G' → (t3 = true ↔ treeH h ∧ (endsH h).Nodup) → ∀ p2, G' p2 = none → ∃ (x y : V) (d : PyData), [V.ref p1, V.ref p2] = [x, y] ∧ Dat K (upd G' p2 (.lst [.bl due, .bl t3])) x d ∧ Dat K (upd G' p2 (.lst [.bl due, .bl t3])) y d ∧ Shows d ∧ d.depth ≤ 60 ∧ Same G7 (upd G' p2 (.lst [.bl due, .bl t3])) := fun G' t3 sd i3 p2 np2 => by
          have e2 : t2 = t3 := by rw [Bool.eq_iff_iff, i2, i3]
          have s2 := same_new (o := .lst [.bl due, .bl t3]) np2
          obtain ⟨sh, dp⟩ := bools_shows due t3
          refine ⟨_, _, .list [.bool due, .bool t3], rfl, .lst (SqL.of (s2 _ _ (sd _ _ (by rw [at_p1, e1, e2])))) (.cons (.bl _) (.cons (.bl _) .nil)), .lst (SqL.of upd_same) (.cons (.bl _) (.cons (.bl _) .nil)), sh, dp, ?_⟩
          exact (((sa.trans sb).trans sc).trans sd).trans s2
        refine ⟨_, rfl, _, rfl, due, rfl, ite2 (fun c1 => ?_) (fun c1 => ?_)⟩
        · have at_e2 := sc _ _ (sb _ _ (sa _ _ at_e))
          have short : ((endsH h).map (fun x => (Sum.inr x : Key))).length ≤ 10 := by
            rw [List.length_map]
            omega
          have short2 := once_len ((endsH h).map (fun x => (Sum.inr x : Key))) []
          have z0 : ([] : List Key).length = 0 := rfl
          refine ⟨_, rfl, e, (endsH h).map (fun x => (Sum.inr x : Key)), rfl, SqL.of (by rw [← keys_strs]; exact at_e2), by omega, fun p np => ?_⟩
          refine ⟨p, _, rfl, upd_same, by omega, ?_⟩
          have s3 := same_new (o := SetM P w p (once [] ((endsH h).map (fun x => (Sum.inr x : Key))))) np
          refine ⟨_, rfl, e, _, rfl, .inl (SqL.of (s3 _ _ at_e2)), rfl, ?_⟩
          refine ⟨len_line (by show 2 ≤ 100000; decide), fun p2 np2 => ?_⟩
          obtain ⟨x, y, d, exy, d1, d2, sh, dp, sg⟩ := done _ (decide (V.int ((once [] ((endsH h).map (fun x => (Sum.inr x : Key)))).length : Nat) = V.int (((endsH h).map V.str).length : Nat))) s3 (by rw [List.length_map, once_once]; exact ⟨fun n => ⟨iff.mp c1, n⟩, fun z => z.2⟩) p2 np2
          exact ⟨x, y, d, exy, d1, d2, sh, dp, true, rfl, iteF ⟨rfl, sg⟩⟩
        · refine ⟨len_line (by show 2 ≤ 100000; decide), fun p2 np2 => ?_⟩
          obtain ⟨x, y, d, exy, d1, d2, sh, dp, sg⟩ := done _ false (Same.refl Gc) ⟨fun z => (by cases z), fun z => absurd (iff.mpr z.1) c1⟩ p2 np2
          exact ⟨x, y, d, exy, d1, d2, sh, dp, true, rfl, iteF ⟨rfl, sg⟩⟩
      rintro _ G8 ⟨rfl, s8⟩
      have at_8 := at_7.up s8
      have bag8 : BagAt G8 b := (bag.but (But.of s7)).but (But.of s8)
      have finish : ∀ {G'' : Hp} {v13 v14 v15 v16 : Option V}, Same G8 G'' → Sl0 a b ([some (.ref a), some (.ref b), v2, v3, some (.ref r), v5, v6, v7, v8, v9, v10, some (.bl due), some (.ref e), v13, v14, v15, v16, none] : L2.St) ∧ BagAt G'' b :=
        fun s => ⟨⟨_, _, _, _, _, _, _, _, _, _, _, _, _, _, _, rfl⟩, bag8.but (But.of s)⟩
      refine ⟨_, rfl, due, rfl, ite2 (fun c1 => ?_) (fun c1 => ?_)⟩
      · have tree : treeH h := iff.mp c1
        have few100 : h.ms.length ≤ 100 := Nat.le_trans seen.few (by decide)
        have fewB100 : h.bs.length ≤ 100 := Nat.le_trans seen.fewB (by decide)
        refine ⟨_, rfl, r, pm, pb, mv, bv, h, rfl, at_8, few100, fun G9 q s9 nq at_q => ⟨q, rfl, ⟨_, SqL.of at_q⟩, ?_⟩⟩
        have at_9 := at_8.up s9
        refine for_list (K := K) (a := q) (xs := (namesH h).map V.str) (fun i σ' G => ∃ v13 v14 v15 v16 : Option V, σ' = ([some (.ref a), some (.ref b), v2, v3, some (.ref r), v5, v6, v7, v8, v9, v10, some (.bl due), some (.ref e), v13, v14, v15, v16, none] : L2.St) ∧ Same G9 G) ⟨_, _, _, _, rfl, Same.refl G9⟩ (fun i σ' G _ ⟨_, _, _, _, _, s⟩ => SqL.of (s _ _ at_q)) ?_ ?_
        · rintro i v _ G at_i ⟨v13, v14, v15, v16, rfl, s⟩
          rw [List.getElem?_map] at at_i
          obtain ⟨x, ex, rfl⟩ := Option.map_eq_some_iff.mp at_i
          have mx : x ∈ namesH h := List.mem_of_getElem? ex
          obtain ⟨p, home⟩ := home_all seen tree x mx
          have short := home.short seen
          have at_g := at_9.up s
          refine ⟨_, rfl, _, rfl, r, pm, pb, mv, bv, h, x, p, rfl, at_g, seen, tree, mx, home, fun Ga q2 sa nq2 at_q2 => ?_⟩
          have at_a := at_g.up sa
          -- what the program tells
          refine ⟨fun σ' G' => ∃ l1 : Addr, σ' = ([some (.ref a), some (.ref b), v2, v3, some (.ref r), v5, v6, v7, v8, v9, v10, some (.bl due), some (.ref e), some (.str x), some (.ref q2), some (.ref l1), v16, none] : L2.St) ∧ Same Ga G' ∧ Dat K G' (.ref l1) (toldD h p), ?_, ?_⟩
          · refine ⟨_, rfl, _, rfl, r, pm, pb, mv, bv, h, x, rfl, at_a, few100, fewB100, mx, fun Gb sb => ?_⟩
            have at_b := at_a.up sb
            refine ⟨_, rfl, _, rfl, r, pm, pb, mv, bv, h, x, p, rfl, at_b, seen, tree, mx, home, fun Gc qw sc nqw at_qw => ?_⟩
            have at_c := at_b.up sc
            refine ⟨_, rfl, _, rfl, r, pm, pb, mv, bv, h, x, p, rfl, at_c, seen, tree, mx, home, fun Gd sd => ?_⟩
            refine ⟨len_line (by show 3 ≤ 100000; decide), fun l nl => ?_⟩
            have sl := same_new (o := .lst [optV (firstL h x), .ref qw, .int (backH h p)]) nl
            refine ⟨l, rfl, ((sb.trans sc).trans sd).trans sl, .lst (SqL.of upd_same) (.cons ?_ (.cons (.tup (.inl (.inl (sl _ _ (sd _ _ at_qw)))) (strs_dats _)) (.cons (.int _) .nil)))⟩
            rw [home.first tree]
            cases p.head? with
            | none => exact .non
            | some j => exact .int _
          rintro _ Gb ⟨l1, rfl, sb, dl1⟩
          have at_b := at_a.up sb
          have at_q3 := sb _ _ at_q2
          -- what the law tells
          refine ⟨fun σ' G' => ∃ l2 : Addr, σ' = ([some (.ref a), some (.ref b), v2, v3, some (.ref r), v5, v6, v7, v8, v9, v10, some (.bl due), some (.ref e), some (.str x), some (.ref q2), some (.ref l1), some (.ref l2), none] : L2.St) ∧ Same Gb G' ∧ Dat K G' (.ref l2) (toldD h p), ?_, ?_⟩
          · refine ⟨_, rfl, len_line (by show 0 ≤ 100000; decide), fun n0 nn0 => ?_⟩
            have s0 := same_new (o := .lst []) nn0
            refine ⟨.list (p.map fun j => PyData.int (j : Nat)), .list [], .lst (SqL.of (s0 _ _ at_q3)) (ints_dats p), .lst (SqL.of upd_same) .nil, ints_shaped p, by decide +kernel, ?_⟩
            rw [ints_eqv]
            generalize upd Gb n0 (.lst []) = Gc at s0
            have at_c := at_b.up s0
            have at_q4 := s0 _ _ at_q3
            refine ⟨_, rfl, ite2 (fun c2 => ?_) (fun c2 => ?_)⟩
            · obtain ⟨j, pl, hp⟩ : ∃ j pl, p = j :: pl := by
                cases p with
                | nil => cases c2
                | cons j pl => exact ⟨j, pl, rfl⟩
              have dv : ∀ G', Dat K G' (V.int (j : Nat)) (optD p.head?) := fun G' => by
                rw [hp]
                exact .int _
              refine ⟨_, rfl, q2, _, 0, .int (j : Nat), rfl, rfl, SqL.of at_q4, by rw [hp]; exact atI_nat (j := 0) rfl, ?_⟩
              refine ⟨_, rfl, q2, rfl, ⟨_, SqL.of at_q4⟩, fun D nD => ?_⟩
              refine lc_list (K := K) (a := q2) (xs := p.map fun j => V.int (j : Nat)) (fun i G' => Same Gc G' ∧ G' D = some (.lst (((wayH h p).take i).map V.str))) ⟨same_new nD, upd_same⟩ (fun i G' _ ⟨s', _⟩ => SqL.of (s' _ _ at_q4)) ?_ ?_
              · rintro i' v' G1' at_i' ⟨s1', at_D⟩
                rw [List.getElem?_map] at at_i'
                obtain ⟨j', ej, rfl⟩ := Option.map_eq_some_iff.mp at_i'
                obtain ⟨m, t, em, hv, sqt, mm⟩ := way_belt seen (at_c.up s1') home (List.mem_of_getElem? ej)
                have at_1 := at_c.up s1'
                have e1 : (wayH h p).take (i' + 1) = (wayH h p).take i' ++ [m.1] := by
                  unfold wayH
                  rw [List.take_succ, List.getElem?_map, ej, ← startAt_eq em]
                  rfl
                refine ⟨rfl, _, rfl, r, _, 1, _, rfl, rfl, at_1.r, atI_nat (j := 1) rfl, _, rfl, pb, _, (j' : Nat), _, rfl, rfl, at_1.bl, atI_nat hv, t, _, 0, _, rfl, rfl, sqt, atI_nat (j := 0) rfl, _, at_D, small1000 ?_, same_set s1' nD, ?_⟩
                · unfold wayH
                  rw [List.length_map, List.length_take, List.length_map]
                  omega
                · rw [upd_same, e1, List.map_append]
                  rfl
              · rintro G1' ⟨s1', at_D⟩
                rw [List.take_of_length_le (by unfold wayH; rw [List.length_map, List.length_map]; exact Nat.le_refl _)] at at_D
                refine ⟨D, _, rfl, .inl ⟨SqL.of at_D, fun l nl => ?_⟩⟩
                have sl := same_new (o := .tup ((wayH h p).map V.str)) nl
                have at_l : upd G1' l (.tup ((wayH h p).map V.str)) l = some (.tup ((wayH h p).map V.str)) := upd_same
                generalize upd G1' l (.tup ((wayH h p).map V.str)) = G2' at sl at_l
                have at_2 := at_c.up (s1'.trans sl)
                refine ⟨_, rfl, _, rfl, r, pm, pb, mv, bv, h, x, p, rfl, at_2, seen, tree, mx, home, fun G3' s3' => ?_⟩
                refine ⟨len_line (by show 3 ≤ 100000; decide), fun l2 nl2 => ?_⟩
                have s4' := same_new (o := .lst [.int (j : Nat), .ref l, .int (backH h p)]) nl2
                exact ⟨l2, rfl, (((s0.trans s1').trans sl).trans s3').trans s4', .lst (SqL.of upd_same) (.cons (dv _) (.cons (.tup (.inl (.inl (s4' _ _ (s3' _ _ at_l)))) (strs_dats _)) (.cons (.int _) .nil)))⟩
            · have dv : ∀ G', Dat K G' V.non (optD p.head?) := fun G' => by
                cases p with
                | nil => exact .non
                | cons j pl => exact absurd rfl c2
              refine ⟨_, rfl, q2, rfl, ⟨_, SqL.of at_q4⟩, fun D nD => ?_⟩
              refine lc_list (K := K) (a := q2) (xs := p.map fun j => V.int (j : Nat)) (fun i G' => Same Gc G' ∧ G' D = some (.lst (((wayH h p).take i).map V.str))) ⟨same_new nD, upd_same⟩ (fun i G' _ ⟨s', _⟩ => SqL.of (s' _ _ at_q4)) ?_ ?_
              · rintro i' v' G1' at_i' ⟨s1', at_D⟩
                rw [List.getElem?_map] at at_i'
                obtain ⟨j', ej, rfl⟩ := Option.map_eq_some_iff.mp at_i'
                obtain ⟨m, t, em, hv, sqt, mm⟩ := way_belt seen (at_c.up s1') home (List.mem_of_getElem? ej)
                have at_1 := at_c.up s1'
                have e1 : (wayH h p).take (i' + 1) = (wayH h p).take i' ++ [m.1] := by
                  unfold wayH
                  rw [List.take_succ, List.getElem?_map, ej, ← startAt_eq em]
                  rfl
                refine ⟨rfl, _, rfl, r, _, 1, _, rfl, rfl, at_1.r, atI_nat (j := 1) rfl, _, rfl, pb, _, (j' : Nat), _, rfl, rfl, at_1.bl, atI_nat hv, t, _, 0, _, rfl, rfl, sqt, atI_nat (j := 0) rfl, _, at_D, small1000 ?_, same_set s1' nD, ?_⟩
                · unfold wayH
                  rw [List.length_map, List.length_take, List.length_map]
                  omega
                · rw [upd_same, e1, List.map_append]
                  rfl
              · rintro G1' ⟨s1', at_D⟩
                rw [List.take_of_length_le (by unfold wayH; rw [List.length_map, List.length_map]; exact Nat.le_refl _)] at at_D
                refine ⟨D, _, rfl, .inl ⟨SqL.of at_D, fun l nl => ?_⟩⟩
                have sl := same_new (o := .tup ((wayH h p).map V.str)) nl
                have at_l : upd G1' l (.tup ((wayH h p).map V.str)) l = some (.tup ((wayH h p).map V.str)) := upd_same
                generalize upd G1' l (.tup ((wayH h p).map V.str)) = G2' at sl at_l
                have at_2 := at_c.up (s1'.trans sl)
                refine ⟨_, rfl, _, rfl, r, pm, pb, mv, bv, h, x, p, rfl, at_2, seen, tree, mx, home, fun G3' s3' => ?_⟩
                refine ⟨len_line (by show 3 ≤ 100000; decide), fun l2 nl2 => ?_⟩
                have s4' := same_new (o := .lst [.non, .ref l, .int (backH h p)]) nl2
                exact ⟨l2, rfl, (((s0.trans s1').trans sl).trans s3').trans s4', .lst (SqL.of upd_same) (.cons (dv _) (.cons (.tup (.inl (.inl (s4' _ _ (s3' _ _ at_l)))) (strs_dats _)) (.cons (.int _) .nil)))⟩
          rintro _ Gc ⟨l2, rfl, sc, dl2⟩
          have at_c := at_b.up sc
          obtain ⟨sh1, dp1⟩ := told_shows seen home
          obtain ⟨sh2, dp2⟩ := there_shows seen home
          refine ⟨fun σ' G' => σ' = ([some (.ref a), some (.ref b), v2, v3, some (.ref r), v5, v6, v7, v8, v9, v10, some (.bl due), some (.ref e), some (.str x), some (.ref q2), some (.ref l1), some (.ref l2), none] : L2.St) ∧ G' = Gc, ?_, ?_⟩
          · exact ⟨_, rfl, _, rfl, _, _, toldD h p, rfl, Dat.up sc dl1, dl2, sh1, dp1, true, rfl, iteF ⟨rfl, rfl⟩⟩
          rintro _ _ ⟨rfl, rfl⟩
          refine ⟨_, rfl, _, rfl, r, _, 2, _, rfl, rfl, at_c.r, atI_nat (j := 2) rfl, rfl, _, rfl, ite2 (fun c2 => ?_) (fun c2 => ?_)⟩
          · refine ⟨_, rfl, _, rfl, r, pm, pb, mv, bv, h, x, p, rfl, at_c, seen, tree, mx, home, fun Gd w1 sd d1 => ?_⟩
            have at_d := at_c.up sd
            refine ⟨_, rfl, _, rfl, r, pm, pb, mv, bv, h, x, p, rfl, at_d, seen, tree, mx, home, fun Ge w2 se d2 => ?_⟩
            refine ⟨_, _, thereD h p, rfl, Dat.up se d1, d2, sh2, dp2, true, rfl, iteF ?_⟩
            exact ⟨_, _, _, _, rfl, ((((s.trans sa).trans sb).trans sc).trans sd).trans se⟩
          · exact ⟨_, _, _, _, rfl, ((s.trans sa).trans sb).trans sc⟩
        · rintro _ G ⟨v13, v14, v15, v16, rfl, s⟩
          exact finish (s9.trans s)
      · refine ⟨len_line (by show 0 ≤ 100000; decide), fun q nq => ?_⟩
        have s9 := same_new (o := .lst []) nq
        refine ⟨q, rfl, ⟨_, SqL.of upd_same⟩, ?_⟩
        refine for_list (K := K) (a := q) (xs := []) (fun i σ' G => ∃ v13 v14 v15 v16 : Option V, σ' = ([some (.ref a), some (.ref b), v2, v3, some (.ref r), v5, v6, v7, v8, v9, v10, some (.bl due), some (.ref e), v13, v14, v15, v16, none] : L2.St) ∧ Same (upd G8 q (.lst [])) G) ⟨_, _, _, _, rfl, Same.refl _⟩ (fun i σ' G _ ⟨_, _, _, _, _, s⟩ => SqL.of (s _ _ upd_same)) ?_ ?_
        · intro i v σ' G at_i
          simp at at_i
        · rintro _ G ⟨v13, v14, v15, v16, rfl, s⟩
          exact finish (s9.trans s)
    rintro _ G ⟨⟨v2, v3, v4, v5, v6, v7, v8, v9, v10, v11, v12, v13, v14, v15, v16, rfl⟩, bag⟩
    exact fin G
end
end K24

namespace Vd
open PySem PySem.Spec PyProof.Rows L2
/-! ### the law is called where no guard is around -/
section
variable {P : Program} {w : World} {K : PySem.W.Frag} {mg mb : Str → Option Value} {s : Shared} {H : Hp} {a : Addr} {vs : List Value}
/-- what stands beside the one list that is looked at -/
theorem around_one (inK : K.In s.heap) (gl : s.heap.Ns mainGlobals mg) (bn : s.heap.Ns builtinsNs mb) (bv : ∀ y : Str, y ≠ "__name__" → mb y = bootBuiltins y) (free : s.heap.NoLimit) (none_yet : s.gens = #[])
    (at_a : s.heap.get? a = some { cls := .type "list", data := .seq vs.toArray }) (good : HOk P w H s.heap) (one : ∀ b, b ≠ a → H b = none) (apart : (∃ u, H a = some u) → K.lookup a = none) :
    K.In (hidT s.heap H) ∧ (hidT s.heap H).Ns mainGlobals mg ∧ Env0 P w K mg (hidT s.heap H) callerA [] s H := by
  have dict_free : ∀ {b : Addr} {o : Obj} {es : Array DictEntry} {n : Nat}, s.heap.get? b = some o → o.data = .dict es n → H b = none := fun {b o es n} there isD =>
    one b fun same => by
      subst same
      rw [at_a] at there
      cases there
      have no : Data.seq vs.toArray _ = Data.dict es n := isD
      cases no
  have spaces : ∀ {b : Addr} {f : Str → Option Value}, s.heap.Ns b f → (hidT s.heap H).Ns b f := fun {b f} h => by
    obtain ⟨o, es, n, there, isD, rest⟩ := h
    exact ⟨o, es, n, hidT_get there (dict_free there isD), isD, rest⟩
  have written : K.In (hidT s.heap H) := fun b o look => by
    refine hidT_get (inK b o look) ?_
    by_cases same : b = a
    · cases seen : H b with
      | none => rfl
      | some u =>
        subst same
        rw [apart ⟨u, seen⟩] at look
        cases look
    · exact one b same
  obtain ⟨ml, lim1, lim2⟩ := free
  exact ⟨written, spaces gl, ⟨rfl, ⟨written, spaces gl, ⟨mb, spaces bn, bv⟩, ⟨ml, spaces lim1, lim2⟩⟩, fun b o z => of_hidT z, Nat.le_of_eq (hidT_size _ _), trivial,
    fun b no => absurd (show b ∈ ([] : List Addr) from no) (List.not_mem_nil), good, .of_eq none_yet⟩⟩
variable {k : Nat} {fa : Addr} {fd : FuncData} {x : Str} {sp : Sp} {ns : List Int}
theorem run_one (inK : K.In s.heap) (gl : s.heap.Ns mainGlobals mg) (bn : s.heap.Ns builtinsNs mb) (bv : ∀ y : Str, y ≠ "__name__" → mb y = bootBuiltins y) (free : s.heap.NoLimit) (none_yet : s.gens = #[])
    (at_a : s.heap.get? a = some { cls := .type "list", data := .seq vs.toArray }) (good : HOk P w H s.heap) (one : ∀ b, b ≠ a → H b = none) (apart : (∃ u, H a = some u) → K.lookup a = none) (only : Only H) (room : Room k callerA)
    (F : ∀ base : Heap, K.In base → base.Ns mainGlobals mg → FnG P w K mg base k fa fd [x] sp) (bind : ∀ (t : Shared) (u : Value), BindsTo t fd ⟨[u], []⟩ [(x, u)]) (ask : sp [.ref a] H (fun v _ => v = .bl true) E0) :
    codeAny (model P w) callerA (.call (.ref fa) ⟨[.ref a], []⟩) (fun r t => r = .ok (.ret (.bool true)) ∧ OldK s.heap t.heap ∧ t.os = s.os ∧ AllBare t.gens) s := by
  obtain ⟨written, glob, env⟩ := around_one inK gl bn bv free none_yet at_a good one apart
  refine codeAny_mono ((F _ written glob).go callerA [] s H ⟨[.ref a], []⟩ [.ref a] [.ref a] _ E0 room rfl env (bind s (.ref a)) (.cons rfl .nil) ask) fun r t got => ?_
  match r, got with
  | .ok (.ret u), ⟨v, H', os, bare, un, hok', rv, q⟩ =>
    have q' : v = .bl true := q
    subst q'
    cases (show u = Value.bool true from rv)
    refine ⟨rfl, OldK.of_keep fun b o there => ?_, os, bare⟩
    rcases only b with clear_ | ⟨ob, xs, frozen⟩
    · exact un.keep b o there clear_ (fun no => absurd (show b ∈ ([] : List Addr) from no) (List.not_mem_nil)) (List.not_mem_nil)
    · have before := (good b _ frozen).1
      have behind := (hok' b _ (un.frzs b ob _ frozen)).1
      rw [there] at before
      cases before
      exact behind
  | .ok .next, no => exact no.elim
  | .ok .brk, no => exact no.elim
  | .ok .cont, no => exact no.elim
  | .error _, no => exact no.elim
theorem run_law (inK : K.In s.heap) (gl : s.heap.Ns mainGlobals mg) (bn : s.heap.Ns builtinsNs mb) (bv : ∀ y : Str, y ≠ "__name__" → mb y = bootBuiltins y) (free : s.heap.NoLimit) (none_yet : s.gens = #[])
    (at_a : s.heap.get? a = some { cls := .type "list", data := .seq vs.toArray }) (isI : IntsAre vs ns) (few : ns.length ≤ sizeLine) (room : Room k callerA)
    (F : ∀ base : Heap, K.In base → base.Ns mainGlobals mg → FnG P w K mg base k fa fd [x] sp) (bind : ∀ (t : Shared) (u : Value), BindsTo t fd ⟨[u], []⟩ [(x, u)])
    (ask : ∀ H : Hp, SqL K H a (ns.map V.int) → sp [.ref a] H (fun v _ => v = .bl true) E0) :
    codeAny (model P w) callerA (.call (.ref fa) ⟨[.ref a], []⟩) (fun r t => r = .ok (.ret (.bool true)) ∧ OldK s.heap t.heap ∧ t.os = s.os ∧ AllBare t.gens) s := by
  have rel := vals_ints isI
  have same := isI.length
  cases look : K.lookup a with
  | none =>
    let seen : Hp := fun b => if b = a then some (.frz { cls := .type "list", data := .seq vs.toArray } (.lst (ns.map V.int))) else none
    have at_seen : seen a = some (.frz { cls := .type "list", data := .seq vs.toArray } (.lst (ns.map V.int))) := if_pos rfl
    have no_more : ∀ b, b ≠ a → seen b = none := fun b ne => if_neg ne
    refine run_one (H := seen) inK gl bn bv free none_yet at_a (fun b u e => ?_) no_more (fun _ => look) (fun b => ?_) room F bind (ask seen (.inl (.inr ⟨_, at_seen⟩)))
    · by_cases ne : b = a
      · subst ne
        rw [at_seen] at e
        cases e
        exact ⟨at_a, by rw [List.length_map]; exact few, vs, _, rel, at_a⟩
      · rw [no_more b ne] at e
        cases e
    · by_cases ne : b = a
      · exact .inr ⟨_, _, by rw [ne]; exact at_seen⟩
      · exact .inl (no_more b ne)
  | some o =>
    have there := inK a o look
    rw [at_a] at there
    cases there
    refine run_one (H := fun _ => none) inK gl bn bv free none_yet at_a (fun b u e => nomatch e) (fun _ _ => rfl) (fun ⟨u, e⟩ => nomatch e) (fun _ => .inl rfl) room F bind (ask _ (.inr ⟨_, vs.toArray, _, look, rfl, rfl, rfl, ?_, ?_⟩))
    · rw [List.size_toArray, same]
      exact few
    · simpa using rel
end
/-- the head for a law that asks repr -/
theorem walkG {l : PySem.W.OpenLaw} {n k : Nat} {q : Program} {loose : List Str} {XP : (Str → Option Value) → Heap → Prop} {YP : World → Heap → Prop} {d : DefRec} {K : Params → PySem.W.Frag} {sp : PySem.W.Frag → Sp} {x : Str}
    (most : l.most = some n) (low : n ≤ sizeLine) (plain : d.params.defaults = []) (room : Room k callerA) (there : ∀ (w : World) (h : Heap), YP w h → (K w.params).In h)
    (F : ∀ (w : World) (mg : Str → Option Value) (fa : Addr) (h : Heap), (K w.params).In h → h.Ns mainGlobals mg → mg d.name = some (.ref fa) →
      ∃ fd : FuncData, (∀ (t : Shared) (u : Value), BindsTo t fd ⟨[u], []⟩ [(x, u)]) ∧ ∀ base : Heap, (K w.params).In base → base.Ns mainGlobals mg → FnG l.prog w (K w.params) mg base k fa fd [x] (sp (K w.params)))
    (ask : ∀ (K : PySem.W.Frag) (H : Hp) (a : Addr) (ns : List Int), ns.length ≤ n → SqL K H a (ns.map V.int) → sp K [.ref a] H (fun v _ => v = .bl true) E0) :
    PySem.W.WalkO q loose XP YP l.row.toRowW d [] (fun f vs => PySem.call f vs) := by
  refine Att.attach_call most plain fun w s0 s1 mg mb fa o pm cd doc a vs ns G Y _ _ _ at_f at_a isI few gens => ?_
  have inK := there w _ Y
  obtain ⟨fd, bind, ok⟩ := F w mg fa _ inK G.T.g at_f
  exact run_law inK G.T.g G.T.b G.T.builtins G.T.nolimit gens at_a isI (Nat.le_trans few low) room ok bind fun H sq => ask _ H a ns few sq
end Vd

namespace K24
open PySem PySem.Spec PyProof.Rows L2 Vd Evl

theorem all_mk {P : Program} {w : World} {K : PySem.W.Frag} {h : Heap} {mg : Str → Option Value} {fa : Addr} (X : K.In h) (G : h.Ns mainGlobals mg) (hfa : mg "law" = some (.ref fa))
    {fNof : Addr} {odNof anNof : Option Addr} {slNof : Array (Option Value)} {ocNof kVNof dcNof pmNof cdNof ctNof : Value}
    {fMof : Addr} {odMof anMof : Option Addr} {slMof : Array (Option Value)} {ocMof kVMof dcMof pmMof cdMof ctMof : Value}
    {fPof : Addr} {odPof anPof : Option Addr} {slPof : Array (Option Value)} {ocPof kVPof dcPof pmPof cdPof ctPof : Value}
    {fChk : Addr} {odChk anChk : Option Addr} {slChk : Array (Option Value)} {ocChk kVChk dcChk pmChk cdChk ctChk : Value}
    {fFrm : Addr} {odFrm anFrm : Option Addr} {slFrm : Array (Option Value)} {ocFrm kVFrm dcFrm pmFrm cdFrm ctFrm : Value}
    {fIT : Addr} {odIT anIT : Option Addr} {slIT : Array (Option Value)} {ocIT kVIT dcIT pmIT cdIT ctIT : Value}
    {fIL : Addr} {odIL anIL : Option Addr} {slIL : Array (Option Value)} {ocIL kVIL dcIL pmIL cdIL ctIL : Value}
    {fBH : Addr} {odBH anBH : Option Addr} {slBH : Array (Option Value)} {ocBH kVBH dcBH pmBH cdBH ctBH : Value}
    {fBsH : Addr} {odBsH anBsH : Option Addr} {slBsH : Array (Option Value)} {ocBsH kVBsH dcBsH pmBsH cdBsH ctBsH : Value}
    {fWH : Addr} {odWH anWH : Option Addr} {slWH : Array (Option Value)} {ocWH kVWH dcWH pmWH cdWH ctWH : Value}
    {fBk : Addr} {odBk anBk : Option Addr} {slBk : Array (Option Value)} {ocBk kVBk dcBk pmBk cdBk ctBk : Value}
    {fTh : Addr} {odTh anTh : Option Addr} {slTh : Array (Option Value)} {ocTh kVTh dcTh pmTh cdTh ctTh : Value}
    {fBag : Addr} {odBag anBag : Option Addr} {slBag : Array (Option Value)} {ocBag kVBag dcBag pmBag cdBag ctBag : Value}
    {fTake : Addr} {odTake anTake : Option Addr} {slTake : Array (Option Value)} {ocTake kVTake dcTake pmTake cdTake ctTake : Value}
    {fSome_ : Addr} {odSome_ anSome_ : Option Addr} {slSome_ : Array (Option Value)} {ocSome_ kVSome_ dcSome_ pmSome_ cdSome_ ctSome_ : Value}
    {fMix : Addr} {odMix anMix : Option Addr} {slMix : Array (Option Value)} {ocMix kVMix dcMix pmMix cdMix ctMix : Value}
    {fAlike : Addr} {odAlike anAlike : Option Addr} {slAlike : Array (Option Value)} {ocAlike kVAlike dcAlike pmAlike cdAlike ctAlike : Value}
    {fLNames : Addr} {odLNames anLNames : Option Addr} {slLNames : Array (Option Value)} {ocLNames kVLNames dcLNames pmLNames cdLNames ctLNames : Value}
    {fLMach : Addr} {odLMach anLMach : Option Addr} {slLMach : Array (Option Value)} {ocLMach kVLMach dcLMach pmLMach cdLMach ctLMach : Value}
    {fLPurs : Addr} {odLPurs anLPurs : Option Addr} {slLPurs : Array (Option Value)} {ocLPurs kVLPurs dcLPurs pmLPurs cdLPurs ctLPurs : Value}
    {fFirst : Addr} {odFirst anFirst : Option Addr} {slFirst : Array (Option Value)} {ocFirst kVFirst dcFirst pmFirst cdFirst ctFirst : Value}
    {fWeb : Addr} {odWeb anWeb : Option Addr} {slWeb : Array (Option Value)} {ocWeb kVWeb dcWeb pmWeb cdWeb ctWeb : Value}
    {fLine : Addr} {odLine anLine : Option Addr} {slLine : Array (Option Value)} {ocLine kVLine dcLine pmLine cdLine ctLine : Value}
    {fTree : Addr} {odTree anTree : Option Addr} {slTree : Array (Option Value)} {ocTree kVTree dcTree pmTree cdTree ctTree : Value}
    {fLIT : Addr} {odLIT anLIT : Option Addr} {slLIT : Array (Option Value)} {ocLIT kVLIT dcLIT pmLIT cdLIT ctLIT : Value}
    {fLWay : Addr} {odLWay anLWay : Option Addr} {slLWay : Array (Option Value)} {ocLWay kVLWay dcLWay pmLWay cdLWay ctLWay : Value}
    {fLSum : Addr} {odLSum anLSum : Option Addr} {slLSum : Array (Option Value)} {ocLSum kVLSum dcLSum pmLSum cdLSum ctLSum : Value}
    {fLBk : Addr} {odLBk anLBk : Option Addr} {slLBk : Array (Option Value)} {ocLBk kVLBk dcLBk pmLBk cdLBk ctLBk : Value}
    {fLTh : Addr} {odLTh anLTh : Option Addr} {slLTh : Array (Option Value)} {ocLTh kVLTh dcLTh pmLTh cdLTh ctLTh : Value}
    {fLaw : Addr} {odLaw anLaw : Option Addr} {slLaw : Array (Option Value)} {ocLaw kVLaw dcLaw pmLaw cdLaw ctLaw : Value}
    (aNof : PySem.W.nsIn K mainGlobals "names_of" = some (some (.ref fNof)))
    (lNof : K.lookup fNof = some ⟨ocNof, odNof, .func (PySem.W.fnOf "names_of" "names_of" (defArgs (topS 4)) (defBody (topS 4)) (defScope (topS 4)) .none kVNof dcNof pmNof anNof cdNof ctNof), slNof⟩)
    (cNof : PySem.W.codeIn K cdNof "names_of" = true)
    (kNof : PySem.W.keepIn K (.ref fNof) = true)
    (aMof : PySem.W.nsIn K mainGlobals "machine_of" = some (some (.ref fMof)))
    (lMof : K.lookup fMof = some ⟨ocMof, odMof, .func (PySem.W.fnOf "machine_of" "machine_of" (defArgs (topS 5)) (defBody (topS 5)) (defScope (topS 5)) .none kVMof dcMof pmMof anMof cdMof ctMof), slMof⟩)
    (cMof : PySem.W.codeIn K cdMof "machine_of" = true)
    (kMof : PySem.W.keepIn K (.ref fMof) = true)
    (aPof : PySem.W.nsIn K mainGlobals "purses_of" = some (some (.ref fPof)))
    (lPof : K.lookup fPof = some ⟨ocPof, odPof, .func (PySem.W.fnOf "purses_of" "purses_of" (defArgs (topS 6)) (defBody (topS 6)) (defScope (topS 6)) .none kVPof dcPof pmPof anPof cdPof ctPof), slPof⟩)
    (cPof : PySem.W.codeIn K cdPof "purses_of" = true)
    (kPof : PySem.W.keepIn K (.ref fPof) = true)
    (aChk : PySem.W.nsIn K mainGlobals "check_name" = some (some (.ref fChk)))
    (lChk : K.lookup fChk = some ⟨ocChk, odChk, .func (PySem.W.fnOf "check_name" "check_name" (defArgs (topS 7)) (defBody (topS 7)) (defScope (topS 7)) .none kVChk dcChk pmChk anChk cdChk ctChk), slChk⟩)
    (cChk : PySem.W.codeIn K cdChk "check_name" = true)
    (kChk : PySem.W.keepIn K (.ref fChk) = true)
    (aFrm : PySem.W.nsIn K mainGlobals "belts_from" = some (some (.ref fFrm)))
    (lFrm : K.lookup fFrm = some ⟨ocFrm, odFrm, .func (PySem.W.fnOf "belts_from" "belts_from" (defArgs (topS 8)) (defBody (topS 8)) (defScope (topS 8)) .none kVFrm dcFrm pmFrm anFrm cdFrm ctFrm), slFrm⟩)
    (cFrm : PySem.W.codeIn K cdFrm "belts_from" = true)
    (kFrm : PySem.W.keepIn K (.ref fFrm) = true)
    (aIT : PySem.W.nsIn K mainGlobals "is_tree" = some (some (.ref fIT)))
    (lIT : K.lookup fIT = some ⟨ocIT, odIT, .func (PySem.W.fnOf "is_tree" "is_tree" (defArgs (topS 10)) (defBody (topS 10)) (defScope (topS 10)) .none kVIT dcIT pmIT anIT cdIT ctIT), slIT⟩)
    (cIT : PySem.W.codeIn K cdIT "is_tree" = true)
    (kIT : PySem.W.keepIn K (.ref fIT) = true)
    (aIL : PySem.W.nsIn K mainGlobals "is_line" = some (some (.ref fIL)))
    (lIL : K.lookup fIL = some ⟨ocIL, odIL, .func (PySem.W.fnOf "is_line" "is_line" (defArgs (topS 11)) (defBody (topS 11)) (defScope (topS 11)) .none kVIL dcIL pmIL anIL cdIL ctIL), slIL⟩)
    (cIL : PySem.W.codeIn K cdIL "is_line" = true)
    (kIL : PySem.W.keepIn K (.ref fIL) = true)
    (aBH : PySem.W.nsIn K mainGlobals "belt_home" = some (some (.ref fBH)))
    (lBH : K.lookup fBH = some ⟨ocBH, odBH, .func (PySem.W.fnOf "belt_home" "belt_home" (defArgs (topS 12)) (defBody (topS 12)) (defScope (topS 12)) .none kVBH dcBH pmBH anBH cdBH ctBH), slBH⟩)
    (cBH : PySem.W.codeIn K cdBH "belt_home" = true)
    (kBH : PySem.W.keepIn K (.ref fBH) = true)
    (aBsH : PySem.W.nsIn K mainGlobals "belts_home" = some (some (.ref fBsH)))
    (lBsH : K.lookup fBsH = some ⟨ocBsH, odBsH, .func (PySem.W.fnOf "belts_home" "belts_home" (defArgs (topS 13)) (defBody (topS 13)) (defScope (topS 13)) .none kVBsH dcBsH pmBsH anBsH cdBsH ctBsH), slBsH⟩)
    (cBsH : PySem.W.codeIn K cdBsH "belts_home" = true)
    (kBsH : PySem.W.keepIn K (.ref fBsH) = true)
    (aWH : PySem.W.nsIn K mainGlobals "way_home" = some (some (.ref fWH)))
    (lWH : K.lookup fWH = some ⟨ocWH, odWH, .func (PySem.W.fnOf "way_home" "way_home" (defArgs (topS 14)) (defBody (topS 14)) (defScope (topS 14)) .none kVWH dcWH pmWH anWH cdWH ctWH), slWH⟩)
    (cWH : PySem.W.codeIn K cdWH "way_home" = true)
    (kWH : PySem.W.keepIn K (.ref fWH) = true)
    (aBk : PySem.W.nsIn K mainGlobals "back_home" = some (some (.ref fBk)))
    (lBk : K.lookup fBk = some ⟨ocBk, odBk, .func (PySem.W.fnOf "back_home" "back_home" (defArgs (topS 15)) (defBody (topS 15)) (defScope (topS 15)) .none kVBk dcBk pmBk anBk cdBk ctBk), slBk⟩)
    (cBk : PySem.W.codeIn K cdBk "back_home" = true)
    (kBk : PySem.W.keepIn K (.ref fBk) = true)
    (aTh : PySem.W.nsIn K mainGlobals "there_and_back" = some (some (.ref fTh)))
    (lTh : K.lookup fTh = some ⟨ocTh, odTh, .func (PySem.W.fnOf "there_and_back" "there_and_back" (defArgs (topS 16)) (defBody (topS 16)) (defScope (topS 16)) .none kVTh dcTh pmTh anTh cdTh ctTh), slTh⟩)
    (cTh : PySem.W.codeIn K cdTh "there_and_back" = true)
    (kTh : PySem.W.keepIn K (.ref fTh) = true)
    (aBag : PySem.W.nsIn K mainGlobals "_law_bag" = some (some (.ref fBag)))
    (lBag : K.lookup fBag = some ⟨ocBag, odBag, .func (PySem.W.fnOf "_law_bag" "_law_bag" (defArgs (topS 18)) (defBody (topS 18)) (defScope (topS 18)) .none kVBag dcBag pmBag anBag cdBag ctBag), slBag⟩)
    (cBag : PySem.W.codeIn K cdBag "_law_bag" = true)
    (kBag : PySem.W.keepIn K (.ref fBag) = true)
    (aTake : PySem.W.nsIn K mainGlobals "_law_take" = some (some (.ref fTake)))
    (lTake : K.lookup fTake = some ⟨ocTake, odTake, .func (PySem.W.fnOf "_law_take" "_law_take" (defArgs (topS 19)) (defBody (topS 19)) (defScope (topS 19)) .none kVTake dcTake pmTake anTake cdTake ctTake), slTake⟩)
    (cTake : PySem.W.codeIn K cdTake "_law_take" = true)
    (kTake : PySem.W.keepIn K (.ref fTake) = true)
    (aSome_ : PySem.W.nsIn K mainGlobals "_law_some" = some (some (.ref fSome_)))
    (lSome_ : K.lookup fSome_ = some ⟨ocSome_, odSome_, .func (PySem.W.fnOf "_law_some" "_law_some" (defArgs (topS 20)) (defBody (topS 20)) (defScope (topS 20)) .none kVSome_ dcSome_ pmSome_ anSome_ cdSome_ ctSome_), slSome_⟩)
    (cSome_ : PySem.W.codeIn K cdSome_ "_law_some" = true)
    (kSome_ : PySem.W.keepIn K (.ref fSome_) = true)
    (aMix : PySem.W.nsIn K mainGlobals "_law_mixed" = some (some (.ref fMix)))
    (lMix : K.lookup fMix = some ⟨ocMix, odMix, .func (PySem.W.fnOf "_law_mixed" "_law_mixed" (defArgs (topS 21)) (defBody (topS 21)) (defScope (topS 21)) .none kVMix dcMix pmMix anMix cdMix ctMix), slMix⟩)
    (cMix : PySem.W.codeIn K cdMix "_law_mixed" = true)
    (kMix : PySem.W.keepIn K (.ref fMix) = true)
    (aAlike : PySem.W.nsIn K mainGlobals "_law_alike" = some (some (.ref fAlike)))
    (lAlike : K.lookup fAlike = some ⟨ocAlike, odAlike, .func (PySem.W.fnOf "_law_alike" "_law_alike" (defArgs (topS 22)) (defBody (topS 22)) (defScope (topS 22)) .none kVAlike dcAlike pmAlike anAlike cdAlike ctAlike), slAlike⟩)
    (cAlike : PySem.W.codeIn K cdAlike "_law_alike" = true)
    (kAlike : PySem.W.keepIn K (.ref fAlike) = true)
    (aLNames : PySem.W.nsIn K mainGlobals "_law_names" = some (some (.ref fLNames)))
    (lLNames : K.lookup fLNames = some ⟨ocLNames, odLNames, .func (PySem.W.fnOf "_law_names" "_law_names" (defArgs (topS 23)) (defBody (topS 23)) (defScope (topS 23)) .none kVLNames dcLNames pmLNames anLNames cdLNames ctLNames), slLNames⟩)
    (cLNames : PySem.W.codeIn K cdLNames "_law_names" = true)
    (kLNames : PySem.W.keepIn K (.ref fLNames) = true)
    (aLMach : PySem.W.nsIn K mainGlobals "_law_machine" = some (some (.ref fLMach)))
    (lLMach : K.lookup fLMach = some ⟨ocLMach, odLMach, .func (PySem.W.fnOf "_law_machine" "_law_machine" (defArgs (topS 24)) (defBody (topS 24)) (defScope (topS 24)) .none kVLMach dcLMach pmLMach anLMach cdLMach ctLMach), slLMach⟩)
    (cLMach : PySem.W.codeIn K cdLMach "_law_machine" = true)
    (kLMach : PySem.W.keepIn K (.ref fLMach) = true)
    (aLPurs : PySem.W.nsIn K mainGlobals "_law_purses" = some (some (.ref fLPurs)))
    (lLPurs : K.lookup fLPurs = some ⟨ocLPurs, odLPurs, .func (PySem.W.fnOf "_law_purses" "_law_purses" (defArgs (topS 25)) (defBody (topS 25)) (defScope (topS 25)) .none kVLPurs dcLPurs pmLPurs anLPurs cdLPurs ctLPurs), slLPurs⟩)
    (cLPurs : PySem.W.codeIn K cdLPurs "_law_purses" = true)
    (kLPurs : PySem.W.keepIn K (.ref fLPurs) = true)
    (aFirst : PySem.W.nsIn K mainGlobals "_law_first" = some (some (.ref fFirst)))
    (lFirst : K.lookup fFirst = some ⟨ocFirst, odFirst, .func (PySem.W.fnOf "_law_first" "_law_first" (defArgs (topS 26)) (defBody (topS 26)) (defScope (topS 26)) .none kVFirst dcFirst pmFirst anFirst cdFirst ctFirst), slFirst⟩)
    (cFirst : PySem.W.codeIn K cdFirst "_law_first" = true)
    (kFirst : PySem.W.keepIn K (.ref fFirst) = true)
    (aWeb : PySem.W.nsIn K mainGlobals "_law_web" = some (some (.ref fWeb)))
    (lWeb : K.lookup fWeb = some ⟨ocWeb, odWeb, .func (PySem.W.fnOf "_law_web" "_law_web" (defArgs (topS 27)) (defBody (topS 27)) (defScope (topS 27)) .none kVWeb dcWeb pmWeb anWeb cdWeb ctWeb), slWeb⟩)
    (cWeb : PySem.W.codeIn K cdWeb "_law_web" = true)
    (kWeb : PySem.W.keepIn K (.ref fWeb) = true)
    (aLine : PySem.W.nsIn K mainGlobals "_law_line" = some (some (.ref fLine)))
    (lLine : K.lookup fLine = some ⟨ocLine, odLine, .func (PySem.W.fnOf "_law_line" "_law_line" (defArgs (topS 28)) (defBody (topS 28)) (defScope (topS 28)) .none kVLine dcLine pmLine anLine cdLine ctLine), slLine⟩)
    (cLine : PySem.W.codeIn K cdLine "_law_line" = true)
    (kLine : PySem.W.keepIn K (.ref fLine) = true)
    (aTree : PySem.W.nsIn K mainGlobals "_law_tree" = some (some (.ref fTree)))
    (lTree : K.lookup fTree = some ⟨ocTree, odTree, .func (PySem.W.fnOf "_law_tree" "_law_tree" (defArgs (topS 29)) (defBody (topS 29)) (defScope (topS 29)) .none kVTree dcTree pmTree anTree cdTree ctTree), slTree⟩)
    (cTree : PySem.W.codeIn K cdTree "_law_tree" = true)
    (kTree : PySem.W.keepIn K (.ref fTree) = true)
    (aLIT : PySem.W.nsIn K mainGlobals "_law_is_tree" = some (some (.ref fLIT)))
    (lLIT : K.lookup fLIT = some ⟨ocLIT, odLIT, .func (PySem.W.fnOf "_law_is_tree" "_law_is_tree" (defArgs (topS 30)) (defBody (topS 30)) (defScope (topS 30)) .none kVLIT dcLIT pmLIT anLIT cdLIT ctLIT), slLIT⟩)
    (cLIT : PySem.W.codeIn K cdLIT "_law_is_tree" = true)
    (kLIT : PySem.W.keepIn K (.ref fLIT) = true)
    (aLWay : PySem.W.nsIn K mainGlobals "_law_way_home" = some (some (.ref fLWay)))
    (lLWay : K.lookup fLWay = some ⟨ocLWay, odLWay, .func (PySem.W.fnOf "_law_way_home" "_law_way_home" (defArgs (topS 31)) (defBody (topS 31)) (defScope (topS 31)) .none kVLWay dcLWay pmLWay anLWay cdLWay ctLWay), slLWay⟩)
    (cLWay : PySem.W.codeIn K cdLWay "_law_way_home" = true)
    (kLWay : PySem.W.keepIn K (.ref fLWay) = true)
    (aLSum : PySem.W.nsIn K mainGlobals "_law_sums" = some (some (.ref fLSum)))
    (lLSum : K.lookup fLSum = some ⟨ocLSum, odLSum, .func (PySem.W.fnOf "_law_sums" "_law_sums" (defArgs (topS 32)) (defBody (topS 32)) (defScope (topS 32)) .none kVLSum dcLSum pmLSum anLSum cdLSum ctLSum), slLSum⟩)
    (cLSum : PySem.W.codeIn K cdLSum "_law_sums" = true)
    (kLSum : PySem.W.keepIn K (.ref fLSum) = true)
    (aLBk : PySem.W.nsIn K mainGlobals "_law_back_home" = some (some (.ref fLBk)))
    (lLBk : K.lookup fLBk = some ⟨ocLBk, odLBk, .func (PySem.W.fnOf "_law_back_home" "_law_back_home" (defArgs (topS 33)) (defBody (topS 33)) (defScope (topS 33)) .none kVLBk dcLBk pmLBk anLBk cdLBk ctLBk), slLBk⟩)
    (cLBk : PySem.W.codeIn K cdLBk "_law_back_home" = true)
    (kLBk : PySem.W.keepIn K (.ref fLBk) = true)
    (aLTh : PySem.W.nsIn K mainGlobals "_law_there" = some (some (.ref fLTh)))
    (lLTh : K.lookup fLTh = some ⟨ocLTh, odLTh, .func (PySem.W.fnOf "_law_there" "_law_there" (defArgs (topS 34)) (defBody (topS 34)) (defScope (topS 34)) .none kVLTh dcLTh pmLTh anLTh cdLTh ctLTh), slLTh⟩)
    (cLTh : PySem.W.codeIn K cdLTh "_law_there" = true)
    (kLTh : PySem.W.keepIn K (.ref fLTh) = true)
    (aLaw : PySem.W.nsIn K mainGlobals "law" = some (some (.ref fLaw)))
    (lLaw : K.lookup fLaw = some ⟨ocLaw, odLaw, .func (PySem.W.fnOf "law" "law" (defArgs (topS 35)) (defBody (topS 35)) (defScope (topS 35)) .none kVLaw dcLaw pmLaw anLaw cdLaw ctLaw), slLaw⟩)
    (cLaw : PySem.W.codeIn K cdLaw "law" = true)
    (kLaw : PySem.W.keepIn K (.ref fLaw) = true)
    (z_int : PySem.W.nsIn K mainGlobals "int" = some none)
    (z_len : PySem.W.nsIn K mainGlobals "len" = some none)
    (z_abs : PySem.W.nsIn K mainGlobals "abs" = some none)
    (z_repr : PySem.W.nsIn K mainGlobals "repr" = some none)
    (z_range : PySem.W.nsIn K mainGlobals "range" = some none)
    (z_tuple : PySem.W.nsIn K mainGlobals "tuple" = some none)
    (z_sorted : PySem.W.nsIn K mainGlobals "sorted" = some none)
    (z_all : PySem.W.nsIn K mainGlobals "all" = some none)
    (z_sum : PySem.W.nsIn K mainGlobals "sum" = some none)
    (z_set : PySem.W.nsIn K mainGlobals "set" = some none)
    (z_enumerate : PySem.W.nsIn K mainGlobals "enumerate" = some none)
    (z_zip : PySem.W.nsIn K mainGlobals "zip" = some none)
    : ∃ fd : FuncData, (∀ (t : Shared) (u : Value), BindsTo t fd ⟨[u], []⟩ [("script", u)]) ∧ ∀ base : Heap, K.In base → base.Ns mainGlobals mg → FnG P w K mg base 8 fa fd ["script"] (spLaw K) := by
  have e := hfa.symm.trans (PySem.W.mg_of X G aLaw)
  cases e
  have FNof := fun_mk (st := topS 4) lNof cNof kNof
  have BNof := FNof.binds (ps := ["hall"]) fun _ _ _ _ _ _ us hl => match us, hl with | [_], _ => rfl
  have AtNof : At K mg "names_of" (topS 4) ["hall"] fNof _ := ⟨FNof, BNof, PySem.W.mg_of X G aNof⟩
  have FMof := fun_mk (st := topS 5) lMof cMof kMof
  have BMof := FMof.binds (ps := ["hall", "name"]) fun _ _ _ _ _ _ us hl => match us, hl with | [_, _], _ => rfl
  have AtMof : At K mg "machine_of" (topS 5) ["hall", "name"] fMof _ := ⟨FMof, BMof, PySem.W.mg_of X G aMof⟩
  have FPof := fun_mk (st := topS 6) lPof cPof kPof
  have BPof := FPof.binds (ps := ["hall", "name"]) fun _ _ _ _ _ _ us hl => match us, hl with | [_, _], _ => rfl
  have AtPof : At K mg "purses_of" (topS 6) ["hall", "name"] fPof _ := ⟨FPof, BPof, PySem.W.mg_of X G aPof⟩
  have FChk := fun_mk (st := topS 7) lChk cChk kChk
  have BChk := FChk.binds (ps := ["hall", "name"]) fun _ _ _ _ _ _ us hl => match us, hl with | [_, _], _ => rfl
  have AtChk : At K mg "check_name" (topS 7) ["hall", "name"] fChk _ := ⟨FChk, BChk, PySem.W.mg_of X G aChk⟩
  have FFrm := fun_mk (st := topS 8) lFrm cFrm kFrm
  have BFrm := FFrm.binds (ps := ["hall", "name"]) fun _ _ _ _ _ _ us hl => match us, hl with | [_, _], _ => rfl
  have AtFrm : At K mg "belts_from" (topS 8) ["hall", "name"] fFrm _ := ⟨FFrm, BFrm, PySem.W.mg_of X G aFrm⟩
  have FIT := fun_mk (st := topS 10) lIT cIT kIT
  have BIT := FIT.binds (ps := ["hall"]) fun _ _ _ _ _ _ us hl => match us, hl with | [_], _ => rfl
  have AtIT : At K mg "is_tree" (topS 10) ["hall"] fIT _ := ⟨FIT, BIT, PySem.W.mg_of X G aIT⟩
  have FIL := fun_mk (st := topS 11) lIL cIL kIL
  have BIL := FIL.binds (ps := ["hall"]) fun _ _ _ _ _ _ us hl => match us, hl with | [_], _ => rfl
  have AtIL : At K mg "is_line" (topS 11) ["hall"] fIL _ := ⟨FIL, BIL, PySem.W.mg_of X G aIL⟩
  have FBH := fun_mk (st := topS 12) lBH cBH kBH
  have BBH := FBH.binds (ps := ["hall", "name"]) fun _ _ _ _ _ _ us hl => match us, hl with | [_, _], _ => rfl
  have AtBH : At K mg "belt_home" (topS 12) ["hall", "name"] fBH _ := ⟨FBH, BBH, PySem.W.mg_of X G aBH⟩
  have FBsH := fun_mk (st := topS 13) lBsH cBsH kBsH
  have BBsH := FBsH.binds (ps := ["hall", "name"]) fun _ _ _ _ _ _ us hl => match us, hl with | [_, _], _ => rfl
  have AtBsH : At K mg "belts_home" (topS 13) ["hall", "name"] fBsH _ := ⟨FBsH, BBsH, PySem.W.mg_of X G aBsH⟩
  have FWH := fun_mk (st := topS 14) lWH cWH kWH
  have BWH := FWH.binds (ps := ["hall", "name"]) fun _ _ _ _ _ _ us hl => match us, hl with | [_, _], _ => rfl
  have AtWH : At K mg "way_home" (topS 14) ["hall", "name"] fWH _ := ⟨FWH, BWH, PySem.W.mg_of X G aWH⟩
  have FBk := fun_mk (st := topS 15) lBk cBk kBk
  have BBk := FBk.binds (ps := ["hall", "name"]) fun _ _ _ _ _ _ us hl => match us, hl with | [_, _], _ => rfl
  have AtBk : At K mg "back_home" (topS 15) ["hall", "name"] fBk _ := ⟨FBk, BBk, PySem.W.mg_of X G aBk⟩
  have FTh := fun_mk (st := topS 16) lTh cTh kTh
  have BTh := FTh.binds (ps := ["hall", "name"]) fun _ _ _ _ _ _ us hl => match us, hl with | [_, _], _ => rfl
  have AtTh : At K mg "there_and_back" (topS 16) ["hall", "name"] fTh _ := ⟨FTh, BTh, PySem.W.mg_of X G aTh⟩
  have FBag := fun_mk (st := topS 18) lBag cBag kBag
  have BBag := FBag.binds (ps := ["script"]) fun _ _ _ _ _ _ us hl => match us, hl with | [_], _ => rfl
  have AtBag : At K mg "_law_bag" (topS 18) ["script"] fBag _ := ⟨FBag, BBag, PySem.W.mg_of X G aBag⟩
  have FTake := fun_mk (st := topS 19) lTake cTake kTake
  have BTake := FTake.binds (ps := ["bag", "many"]) fun _ _ _ _ _ _ us hl => match us, hl with | [_, _], _ => rfl
  have AtTake : At K mg "_law_take" (topS 19) ["bag", "many"] fTake _ := ⟨FTake, BTake, PySem.W.mg_of X G aTake⟩
  have FSome_ := fun_mk (st := topS 20) lSome_ cSome_ kSome_
  have BSome_ := FSome_.binds (ps := ["bag", "things"]) fun _ _ _ _ _ _ us hl => match us, hl with | [_, _], _ => rfl
  have AtSome_ : At K mg "_law_some" (topS 20) ["bag", "things"] fSome_ _ := ⟨FSome_, BSome_, PySem.W.mg_of X G aSome_⟩
  have FMix := fun_mk (st := topS 21) lMix cMix kMix
  have BMix := FMix.binds (ps := ["bag", "things"]) fun _ _ _ _ _ _ us hl => match us, hl with | [_, _], _ => rfl
  have AtMix : At K mg "_law_mixed" (topS 21) ["bag", "things"] fMix _ := ⟨FMix, BMix, PySem.W.mg_of X G aMix⟩
  have FAlike := fun_mk (st := topS 22) lAlike cAlike kAlike
  have BAlike := FAlike.binds (ps := ["found", "due"]) fun _ _ _ _ _ _ us hl => match us, hl with | [_, _], _ => rfl
  have AtAlike : At K mg "_law_alike" (topS 22) ["found", "due"] fAlike _ := ⟨FAlike, BAlike, PySem.W.mg_of X G aAlike⟩
  have FLNames := fun_mk (st := topS 23) lLNames cLNames kLNames
  have BLNames := FLNames.binds (ps := ["hall"]) fun _ _ _ _ _ _ us hl => match us, hl with | [_], _ => rfl
  have AtLNames : At K mg "_law_names" (topS 23) ["hall"] fLNames _ := ⟨FLNames, BLNames, PySem.W.mg_of X G aLNames⟩
  have FLMach := fun_mk (st := topS 24) lLMach cLMach kLMach
  have BLMach := FLMach.binds (ps := ["hall", "name"]) fun _ _ _ _ _ _ us hl => match us, hl with | [_, _], _ => rfl
  have AtLMach : At K mg "_law_machine" (topS 24) ["hall", "name"] fLMach _ := ⟨FLMach, BLMach, PySem.W.mg_of X G aLMach⟩
  have FLPurs := fun_mk (st := topS 25) lLPurs cLPurs kLPurs
  have BLPurs := FLPurs.binds (ps := ["bag", "most"]) fun _ _ _ _ _ _ us hl => match us, hl with | [_, _], _ => rfl
  have AtLPurs : At K mg "_law_purses" (topS 25) ["bag", "most"] fLPurs _ := ⟨FLPurs, BLPurs, PySem.W.mg_of X G aLPurs⟩
  have FFirst := fun_mk (st := topS 26) lFirst cFirst kFirst
  have BFirst := FFirst.binds (ps := ["bag", "room"]) fun _ _ _ _ _ _ us hl => match us, hl with | [_, _], _ => rfl
  have AtFirst : At K mg "_law_first" (topS 26) ["bag", "room"] fFirst _ := ⟨FFirst, BFirst, PySem.W.mg_of X G aFirst⟩
  have FWeb := fun_mk (st := topS 27) lWeb cWeb kWeb
  have BWeb := FWeb.binds (ps := ["bag", "machines", "most"]) fun _ _ _ _ _ _ us hl => match us, hl with | [_, _, _], _ => rfl
  have AtWeb : At K mg "_law_web" (topS 27) ["bag", "machines", "most"] fWeb _ := ⟨FWeb, BWeb, PySem.W.mg_of X G aWeb⟩
  have FLine := fun_mk (st := topS 28) lLine cLine kLine
  have BLine := FLine.binds (ps := ["bag", "machines", "most"]) fun _ _ _ _ _ _ us hl => match us, hl with | [_, _, _], _ => rfl
  have AtLine : At K mg "_law_line" (topS 28) ["bag", "machines", "most"] fLine _ := ⟨FLine, BLine, PySem.W.mg_of X G aLine⟩
  have FTree := fun_mk (st := topS 29) lTree cTree kTree
  have BTree := FTree.binds (ps := ["bag", "machines", "most"]) fun _ _ _ _ _ _ us hl => match us, hl with | [_, _, _], _ => rfl
  have AtTree : At K mg "_law_tree" (topS 29) ["bag", "machines", "most"] fTree _ := ⟨FTree, BTree, PySem.W.mg_of X G aTree⟩
  have FLIT := fun_mk (st := topS 30) lLIT cLIT kLIT
  have BLIT := FLIT.binds (ps := ["hall"]) fun _ _ _ _ _ _ us hl => match us, hl with | [_], _ => rfl
  have AtLIT : At K mg "_law_is_tree" (topS 30) ["hall"] fLIT _ := ⟨FLIT, BLIT, PySem.W.mg_of X G aLIT⟩
  have FLWay := fun_mk (st := topS 31) lLWay cLWay kLWay
  have BLWay := FLWay.binds (ps := ["hall", "name"]) fun _ _ _ _ _ _ us hl => match us, hl with | [_, _], _ => rfl
  have AtLWay : At K mg "_law_way_home" (topS 31) ["hall", "name"] fLWay _ := ⟨FLWay, BLWay, PySem.W.mg_of X G aLWay⟩
  have FLSum := fun_mk (st := topS 32) lLSum cLSum kLSum
  have BLSum := FLSum.binds (ps := ["hall", "name"]) fun _ _ _ _ _ _ us hl => match us, hl with | [_, _], _ => rfl
  have AtLSum : At K mg "_law_sums" (topS 32) ["hall", "name"] fLSum _ := ⟨FLSum, BLSum, PySem.W.mg_of X G aLSum⟩
  have FLBk := fun_mk (st := topS 33) lLBk cLBk kLBk
  have BLBk := FLBk.binds (ps := ["hall", "name"]) fun _ _ _ _ _ _ us hl => match us, hl with | [_, _], _ => rfl
  have AtLBk : At K mg "_law_back_home" (topS 33) ["hall", "name"] fLBk _ := ⟨FLBk, BLBk, PySem.W.mg_of X G aLBk⟩
  have FLTh := fun_mk (st := topS 34) lLTh cLTh kLTh
  have BLTh := FLTh.binds (ps := ["hall", "name"]) fun _ _ _ _ _ _ us hl => match us, hl with | [_, _], _ => rfl
  have AtLTh : At K mg "_law_there" (topS 34) ["hall", "name"] fLTh _ := ⟨FLTh, BLTh, PySem.W.mg_of X G aLTh⟩
  have FLaw := fun_mk (st := topS 35) lLaw cLaw kLaw
  have BLaw := FLaw.binds (ps := ["script"]) fun _ _ _ _ _ _ us hl => match us, hl with | [_], _ => rfl
  have T : Txt K mg := ⟨_, _, _, _, _, _, _, _, _, _, _, _, _, _, _, _, _, _, _, _, _, _, _, _, _, _, _, _, _, _, _, _, _, _, _, _, _, _, _, _, _, _, _, _, _, _, _, _, _, _, _, _, _, _, _, _, _, _, AtNof, AtMof, AtPof, AtChk, AtFrm, AtIT, AtIL, AtBH, AtBsH, AtWH, AtBk, AtTh, AtBag, AtTake, AtSome_, AtMix, AtAlike, AtLNames, AtLMach, AtLPurs, AtFirst, AtWeb, AtLine, AtTree, AtLIT, AtLWay, AtLSum, AtLBk, AtLTh, PySem.W.mg_none_of X G z_int, PySem.W.mg_none_of X G z_len, PySem.W.mg_none_of X G z_abs, PySem.W.mg_none_of X G z_repr, PySem.W.mg_none_of X G z_range, PySem.W.mg_none_of X G z_tuple, PySem.W.mg_none_of X G z_sorted, PySem.W.mg_none_of X G z_all, PySem.W.mg_none_of X G z_sum, PySem.W.mg_none_of X G z_set, PySem.W.mg_none_of X G z_enumerate, PySem.W.mg_none_of X G z_zip⟩
  exact ⟨_, fun t u => .of_eq rfl, fun base _ _ => ok_law FLaw T⟩
end K24

open PySem PySem.W PyProof.Rows in
set_option maxRecDepth 100000 in
set_option maxHeartbeats 0 in
theorem PySem.Challenge.cw_fillerfed_k24_trees_and_their_ways_home_holds : PySem.Challenge.rw_fillerfed_k24_trees_and_their_ways_home.Holds := by
  w_on; o_law; k_head; (case hw => w_witness2)
  k_fill
  refine Vd.walkG (l := PySem.Challenge.rw_fillerfed_k24_trees_and_their_ways_home) (n := 63) (k := 8) (x := "script") (sp := K24.spLaw) rfl (by decide +kernel) rfl ⟨rfl, by decide +kernel, by decide +kernel⟩ (fun w h Y => PySem.W.kIn_of Y) ?F (fun K H a ns few sq => ⟨a, ns, rfl, sq, few, fun _ => rfl⟩)
  case F =>
    intro w mg fa h KX G hmg
    refine' K24.all_mk KX G hmg ?aNof ?lNof ?cNof ?kNof ?aMof ?lMof ?cMof ?kMof ?aPof ?lPof ?cPof ?kPof ?aChk ?lChk ?cChk ?kChk ?aFrm ?lFrm ?cFrm ?kFrm ?aIT ?lIT ?cIT ?kIT ?aIL ?lIL ?cIL ?kIL ?aBH ?lBH ?cBH ?kBH ?aBsH ?lBsH ?cBsH ?kBsH ?aWH ?lWH ?cWH ?kWH ?aBk ?lBk ?cBk ?kBk ?aTh ?lTh ?cTh ?kTh ?aBag ?lBag ?cBag ?kBag ?aTake ?lTake ?cTake ?kTake ?aSome_ ?lSome_ ?cSome_ ?kSome_ ?aMix ?lMix ?cMix ?kMix ?aAlike ?lAlike ?cAlike ?kAlike ?aLNames ?lLNames ?cLNames ?kLNames ?aLMach ?lLMach ?cLMach ?kLMach ?aLPurs ?lLPurs ?cLPurs ?kLPurs ?aFirst ?lFirst ?cFirst ?kFirst ?aWeb ?lWeb ?cWeb ?kWeb ?aLine ?lLine ?cLine ?kLine ?aTree ?lTree ?cTree ?kTree ?aLIT ?lLIT ?cLIT ?kLIT ?aLWay ?lLWay ?cLWay ?kLWay ?aLSum ?lLSum ?cLSum ?kLSum ?aLBk ?lLBk ?cLBk ?kLBk ?aLTh ?lLTh ?cLTh ?kLTh ?aLaw ?lLaw ?cLaw ?kLaw ?z_int ?z_len ?z_abs ?z_repr ?z_range ?z_tuple ?z_sorted ?z_all ?z_sum ?z_set ?z_enumerate ?z_zip
    (case aNof => k_is)
    (case lNof => k_is)
    (case cNof => k_is)
    (case kNof => k_is)
    (case aMof => k_is)
    (case lMof => k_is)
    (case cMof => k_is)
    (case kMof => k_is)
    (case aPof => k_is)
    (case lPof => k_is)
    (case cPof => k_is)
    (case kPof => k_is)
    (case aChk => k_is)
    (case lChk => k_is)
    (case cChk => k_is)
    (case kChk => k_is)
    (case aFrm => k_is)
    (case lFrm => k_is)
    (case cFrm => k_is)
    (case kFrm => k_is)
    (case aIT => k_is)
    (case lIT => k_is)
    (case cIT => k_is)
    (case kIT => k_is)
    (case aIL => k_is)
    (case lIL => k_is)
    (case cIL => k_is)
    (case kIL => k_is)
    (case aBH => k_is)
    (case lBH => k_is)
    (case cBH => k_is)
    (case kBH => k_is)
    (case aBsH => k_is)
    (case lBsH => k_is)
    (case cBsH => k_is)
    (case kBsH => k_is)
    (case aWH => k_is)
    (case lWH => k_is)
    (case cWH => k_is)
    (case kWH => k_is)
    (case aBk => k_is)
    (case lBk => k_is)
    (case cBk => k_is)
    (case kBk => k_is)
    (case aTh => k_is)
    (case lTh => k_is)
    (case cTh => k_is)
    (case kTh => k_is)
    (case aBag => k_is)
    (case lBag => k_is)
    (case cBag => k_is)
    (case kBag => k_is)
    (case aTake => k_is)
    (case lTake => k_is)
    (case cTake => k_is)
    (case kTake => k_is)
    (case aSome_ => k_is)
    (case lSome_ => k_is)
    (case cSome_ => k_is)
    (case kSome_ => k_is)
    (case aMix => k_is)
    (case lMix => k_is)
    (case cMix => k_is)
    (case kMix => k_is)
    (case aAlike => k_is)
    (case lAlike => k_is)
    (case cAlike => k_is)
    (case kAlike => k_is)
    (case aLNames => k_is)
    (case lLNames => k_is)
    (case cLNames => k_is)
    (case kLNames => k_is)
    (case aLMach => k_is)
    (case lLMach => k_is)
    (case cLMach => k_is)
    (case kLMach => k_is)
    (case aLPurs => k_is)
    (case lLPurs => k_is)
    (case cLPurs => k_is)
    (case kLPurs => k_is)
    (case aFirst => k_is)
    (case lFirst => k_is)
    (case cFirst => k_is)
    (case kFirst => k_is)
    (case aWeb => k_is)
    (case lWeb => k_is)
    (case cWeb => k_is)
    (case kWeb => k_is)
    (case aLine => k_is)
    (case lLine => k_is)
    (case cLine => k_is)
    (case kLine => k_is)
    (case aTree => k_is)
    (case lTree => k_is)
    (case cTree => k_is)
    (case kTree => k_is)
    (case aLIT => k_is)
    (case lLIT => k_is)
    (case cLIT => k_is)
    (case kLIT => k_is)
    (case aLWay => k_is)
    (case lLWay => k_is)
    (case cLWay => k_is)
    (case kLWay => k_is)
    (case aLSum => k_is)
    (case lLSum => k_is)
    (case cLSum => k_is)
    (case kLSum => k_is)
    (case aLBk => k_is)
    (case lLBk => k_is)
    (case cLBk => k_is)
    (case kLBk => k_is)
    (case aLTh => k_is)
    (case lLTh => k_is)
    (case cLTh => k_is)
    (case kLTh => k_is)
    (case aLaw => k_is)
    (case lLaw => k_is)
    (case cLaw => k_is)
    (case kLaw => k_is)
    (case z_int => k_is)
    (case z_len => k_is)
    (case z_abs => k_is)
    (case z_repr => k_is)
    (case z_range => k_is)
    (case z_tuple => k_is)
    (case z_sorted => k_is)
    (case z_all => k_is)
    (case z_sum => k_is)
    (case z_set => k_is)
    (case z_enumerate => k_is)
    (case z_zip => k_is)
