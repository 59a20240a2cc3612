import Derived.Test.YtfnkchdeheeiiaaGreatDoorCKa
set_option linter.all false
set_option maxRecDepth 100000
set_option maxHeartbeats 200000
namespace Go.Proofs.YtfnkchdeheeiiaaGreatDoor
namespace In
set_option maxRecDepth 100000
def adK:((dG 2).all λl=>mC (2::0::0::l))=true:=qkr
def adL:((dG 2).all λl=>mC (2::0::1::l))=true:=qkr
def adM:((dG 2).all λl=>mC (2::0::2::l))=true:=qkr
def adN:((dG 2).all λl=>mC (2::1::0::l))=true:=qkr
def adO:((dG 2).all λl=>mC (2::1::1::l))=true:=qkr
def adP:((dG 2).all λl=>mC (2::1::2::l))=true:=qkr
def adQ:((dG 2).all λl=>mC (2::2::0::l))=true:=qkr
def adR:((dG 2).all λl=>mC (2::2::1::l))=true:=qkr
def adS:((dG 2).all λl=>mC (2::2::2::l))=true:=qkr
end In
end Go.Proofs.YtfnkchdeheeiiaaGreatDoor
