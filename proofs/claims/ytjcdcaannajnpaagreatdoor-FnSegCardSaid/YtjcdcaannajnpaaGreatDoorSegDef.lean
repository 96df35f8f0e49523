/- Chapter 4 in plain words: the bytes of a piece and of an answer. -/
import Derived.Test.YtjcdcaannajnpaaGreatDoorSegR
import Derived.Test.YtjcdcaannajnpaaGreatDoorSeal
namespace Go.Proofs.YtjcdcaannajnpaaGreatDoor
open Go.RowKit

def segBody (p s d : Int) (t : List UInt8) (e : Int) : List UInt8 := 83 :: (putN p ++ (putN s ++ (putN d ++ (putT t ++ putN e))))
def ackBody (p s d e : Int) : List UInt8 := 65 :: (putN p ++ (putN s ++ (putN d ++ putN e)))
def segN (p s d : Int) (t : List UInt8) (e : Int) : List UInt8 := if segOk p s d t e then sealN (segBody p s d t e) else []
def ackN (p s d e : Int) : List UInt8 := if ackOk p s d e then sealN (ackBody p s d e) else []
theorem segN_yes {p s d e : Int} {t : List UInt8} (h : segOk p s d t e) : segN p s d t e = sealN (segBody p s d t e) := by unfold segN; rw [if_pos h]
theorem segN_no {p s d e : Int} {t : List UInt8} (h : ¬ segOk p s d t e) : segN p s d t e = [] := by unfold segN; rw [if_neg h]
theorem ackN_yes {p s d e : Int} (h : ackOk p s d e) : ackN p s d e = sealN (ackBody p s d e) := by unfold ackN; rw [if_pos h]
theorem ackN_no {p s d e : Int} (h : ¬ ackOk p s d e) : ackN p s d e = [] := by unfold ackN; rw [if_neg h]
theorem putT_len {x : List UInt8} (h : x.length ≤ 16) : (putT x).length ≤ 27 := by
  rw [putT_small (by omega)]
  have := (putN_length x.length).1
  simp; omega
theorem segBody_len {p s d e : Int} {x : List UInt8} (h : x.length ≤ 16) : (segBody p s d x e).length ≤ 80 := by
  have h1 := (putN_length p).1
  have h2 := (putN_length s).1
  have h3 := (putN_length d).1
  have h4 := putT_len h
  have h5 := (putN_length e).1
  unfold segBody; simp; omega
theorem ackBody_len (p s d e : Int) : (ackBody p s d e).length ≤ 80 := by
  have h1 := (putN_length p).1
  have h2 := (putN_length s).1
  have h3 := (putN_length d).1
  have h5 := (putN_length e).1
  unfold ackBody; simp; omega

end Go.Proofs.YtjcdcaannajnpaaGreatDoor
