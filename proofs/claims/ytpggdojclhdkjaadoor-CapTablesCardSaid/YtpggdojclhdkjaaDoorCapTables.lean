/- CapTables (P7.1): for all numbers and every text the functions on names, sets, rights, fitting, aliases and recovery are those of the reference. -/
import Derived.Test.YtpggdojclhdkjaaDoorCapK
namespace Go.Proofs.YtpggdojclhdkjaaDoor
open Go.RowKit

/-- Where a call stands: nothing that was there has turned, and the tables lie as they did. -/
structure St (w0 w : World) : Prop where
  low : Below w0.heap.size w0 w
  fit : TFit w
  bit : TBit w
  view : TView w
  recs : TRec w
  mem : TMem w
  name : TName w
  size : 0 < w.heap.size
theorem St.step {w0 w w' : World} (h : St w0 w) (hb : Below w.heap.size w w') : St w0 w' :=
  ⟨h.low.trans (hb.mono h.low.size), h.fit.below hb (h.fit.lt (by decide)), h.bit.below hb (h.bit.lt (by decide)), h.view.below hb (h.view.lt (by decide)), h.recs.below hb (h.recs.lt (by decide)), h.mem.below hb (h.mem.lt (by decide)), h.name.below hb h.size, Nat.lt_of_lt_of_le h.size hb.size⟩
theorem St.drew {w0 w : World} {n : Nat} (h : St w0 w) : St w0 (w.drewN n) := ⟨below_drewN h.low, h.fit, h.bit, h.view, h.recs, h.mem, h.name, h.size⟩
theorem TName.lt {w : World} (h : TName w) : 0 < w.heap.size := by
  obtain ⟨t, fr, h⟩ := h
  exact (Array.getElem?_eq_some_iff.1 h).1

set_option maxHeartbeats 16000000 in
set_option maxRecDepth 100000 in
theorem capTables_walk (a m b o : Int) (s : ByteArray) (w : World) (hF : TFit w) (hB : TBit w) (hV : TView w) (hR : TRec w) (hM : TMem w) (hN : TName w) :
    Calls Tryd.prog 3 #[.int .i64 a, .int .i64 m, .int .i64 b, .int .i64 o, .string s] w fun e w' => e = .returned (.bool true) ∧ Below w.heap.size w w' := by
  have st0 : St w w := ⟨Below.refl _ _, hF, hB, hV, hR, hM, hN, hN.lt⟩
  clear hF hB hV hR hM hN
  go_enter Tryd.func3, Tryd.ntmps3
  go_wp2_with (first
    | (go_at_call 9; refine (parse_any _ _ (St.name (w0 := w) (by first | assumption | exact St.drew (by assumption) | exact St.drew (St.drew (by assumption))))).mono ?_; rintro e w' ⟨rfl, rfl⟩)
    | (go_at_call 10; refine (rparse_any _ _).mono ?_; rintro e w' ⟨rfl, hb⟩; have _st := St.step (w0 := w) (by first | assumption | exact St.drew (by assumption) | exact St.drew (St.drew (by assumption))) hb)
    | (go_at_call 11; refine (name_any _ _ (St.name (w0 := w) (by first | assumption | exact St.drew (by assumption) | exact St.drew (St.drew (by assumption))))).mono ?_; rintro e w' ⟨rfl, rfl⟩)
    | (go_at_call 12; refine (rname_any _ _).mono ?_; rintro e w' ⟨rfl, hb⟩; have _st := St.step (w0 := w) (by first | assumption | exact St.drew (by assumption) | exact St.drew (St.drew (by assumption))) hb)
    | (go_at_call 13; refine (is_any _ _).mono ?_; rintro e w' ⟨rfl, rfl⟩)
    | (go_at_call 14; refine (ris_any _ _).mono ?_; rintro e w' ⟨rfl, rfl⟩)
    | (go_at_call 16; refine (members_any _ _ (St.mem (w0 := w) (by first | assumption | exact St.drew (by assumption) | exact St.drew (St.drew (by assumption))))).mono ?_; rintro e w' ⟨v, rfl, hrow, hb⟩; have _st := St.step (w0 := w) (by first | assumption | exact St.drew (by assumption) | exact St.drew (St.drew (by assumption))) hb)
    | (go_at_call 17; refine (rmembers_any _ _).mono ?_; rintro e w' ⟨v, rfl, hrow, hb⟩; have _st := St.step (w0 := w) (by first | assumption | exact St.drew (by assumption) | exact St.drew (St.drew (by assumption))) hb)
    | (go_at_call 15; refine (equal_c _ _ (mlist a) _ (by first | assumption | exact Row.below (by assumption) (by assumption)) (by assumption)).mono ?_; rintro e w' ⟨rfl, nq, rfl⟩)
    | (go_at_call 18; refine (reads_any _ _).mono ?_; rintro e w' ⟨rfl, rfl⟩)
    | (go_at_call 19; refine (rreads_any _ _).mono ?_; rintro e w' ⟨rfl, rfl⟩)
    | (go_at_call 20; refine (writes_any _ _).mono ?_; rintro e w' ⟨rfl, rfl⟩)
    | (go_at_call 21; refine (rwrites_any _ _).mono ?_; rintro e w' ⟨rfl, rfl⟩)
    | (go_at_call 22; refine (sendable_any _ _).mono ?_; rintro e w' ⟨rfl, rfl⟩)
    | (go_at_call 23; refine (rsendable_any _ _).mono ?_; rintro e w' ⟨rfl, rfl⟩)
    | (go_at_call 24; refine (sub_any _ _ _ (St.fit (w0 := w) (by first | assumption | exact St.drew (by assumption) | exact St.drew (St.drew (by assumption)))) (St.bit (w0 := w) (by first | assumption | exact St.drew (by assumption) | exact St.drew (St.drew (by assumption))))).mono ?_; rintro e w' ⟨rfl, nq, rfl⟩)
    | (go_at_call 25; refine (rsub_any _ _ _).mono ?_; rintro e w' ⟨rfl, rfl⟩)
    | (go_at_call 26; refine (fits_any _ _ _ _ _ (St.fit (w0 := w) (by first | assumption | exact St.drew (by assumption) | exact St.drew (St.drew (by assumption)))) (St.bit (w0 := w) (by first | assumption | exact St.drew (by assumption) | exact St.drew (St.drew (by assumption))))).mono ?_; rintro e w' ⟨rfl, nq, rfl⟩)
    | (go_at_call 27; refine (rfits_any _ _ _ _ _).mono ?_; rintro e w' ⟨rfl, rfl⟩)
    | (go_at_call 28; refine (alias_any _ _ _).mono ?_; rintro e w' ⟨rfl, rfl⟩)
    | (go_at_call 29; refine (ralias_any _ _ _).mono ?_; rintro e w' ⟨rfl, rfl⟩)
    | (go_at_call 30; refine (consumed_any _ _ _).mono ?_; rintro e w' ⟨rfl, rfl⟩)
    | (go_at_call 31; refine (rconsumed_any _ _ _).mono ?_; rintro e w' ⟨rfl, rfl⟩)
    | (go_at_call 32; refine (recover_any _ _ (St.recs (w0 := w) (by first | assumption | exact St.drew (by assumption) | exact St.drew (St.drew (by assumption))))).mono ?_; rintro e w' ⟨rfl, rfl⟩)
    | (go_at_call 33; refine (rrecover_any _ _).mono ?_; rintro e w' ⟨rfl, rfl⟩)
    | (go_at_call 34; refine (awake_any _ (St.fit (w0 := w) (by first | assumption | exact St.drew (by assumption) | exact St.drew (St.drew (by assumption)))) (St.bit (w0 := w) (by first | assumption | exact St.drew (by assumption) | exact St.drew (St.drew (by assumption)))) (St.view (w0 := w) (by first | assumption | exact St.drew (by assumption) | exact St.drew (St.drew (by assumption))))).mono ?_; rintro e w' ⟨rfl, nq, rfl⟩))
  go_ret
  exact ⟨rfl, St.low (w0 := w) (by first | assumption | exact St.drew (by assumption) | exact St.drew (St.drew (by assumption)))⟩
end Go.Proofs.YtpggdojclhdkjaaDoor
