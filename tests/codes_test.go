package tests

import (
	"testing"

	"loop.example/s01858/impl"
)

// The tables of chapter 1.
func TestCodes(t *testing.T) {
	codes := []int64{
		impl.OK, impl.ErrName, impl.ErrLabel, impl.ErrLong, impl.ErrEscape, impl.ErrRelative, impl.ErrType,
		impl.ErrData, impl.ErrShort, impl.ErrPointer, impl.ErrTrail, impl.ErrSize, impl.ErrCount, impl.ErrQuote,
		impl.ErrParen, impl.ErrWord, impl.ErrDirective, impl.ErrOwner, impl.ErrTTL, impl.ErrClass, impl.ErrSOA,
		impl.ErrNS, impl.ErrZone, impl.ErrSingle, impl.ErrMixed, impl.ErrBelow, impl.ErrWild, impl.ErrSerial,
		impl.ErrDisk, impl.ErrKey, impl.ErrSum, impl.ErrTime, impl.ErrForm,
	}
	if len(codes) != 33 {
		t.Errorf("%d codes", len(codes))
	}
	for want, got := range codes {
		if got != int64(want) {
			t.Errorf("the code number %d is %d", want, got)
		}
	}
}

func TestLimits(t *testing.T) {
	for _, c := range []struct {
		name      string
		got, want int64
	}{
		{"MaxLabel", impl.MaxLabel, 63},
		{"MaxName", impl.MaxName, 255},
		{"MaxNameText", impl.MaxNameText, 1100},
		{"MaxTTL", impl.MaxTTL, 2147483647},
		{"MaxData", impl.MaxData, 65535},
		{"MaxWords", impl.MaxWords, 300},
		{"MaxMessage", impl.MaxMessage, 65535},
		{"MaxEntries", impl.MaxEntries, 400},
		{"MaxFile", impl.MaxFile, 40000},
		{"MaxRecords", impl.MaxRecords, 500},
		{"MaxChain", impl.MaxChain, 16},
		{"MaxHistory", impl.MaxHistory, 40},
		{"MaxJournal", impl.MaxJournal, 400000},
		{"MaxKeys", impl.MaxKeys, 8},
		{"MaxConns", impl.MaxConns, 64},
		{"MaxEvents", impl.MaxEvents, 1000},
		{"MaxScript", impl.MaxScript, 400000},
	} {
		if c.got != c.want {
			t.Errorf("%s = %d, not %d", c.name, c.got, c.want)
		}
	}
}

// The types and classes of chapter 3.
func TestTypesAndClasses(t *testing.T) {
	for _, c := range []struct {
		name      string
		got, want int64
	}{
		{"TypeA", impl.TypeA, 1},
		{"TypeNS", impl.TypeNS, 2},
		{"TypeCNAME", impl.TypeCNAME, 5},
		{"TypeSOA", impl.TypeSOA, 6},
		{"TypePTR", impl.TypePTR, 12},
		{"TypeHINFO", impl.TypeHINFO, 13},
		{"TypeMX", impl.TypeMX, 15},
		{"TypeTXT", impl.TypeTXT, 16},
		{"TypeAAAA", impl.TypeAAAA, 28},
		{"TypeSRV", impl.TypeSRV, 33},
		{"TypeNAPTR", impl.TypeNAPTR, 35},
		{"TypeDNAME", impl.TypeDNAME, 39},
		{"TypeOPT", impl.TypeOPT, 41},
		{"TypeNSEC", impl.TypeNSEC, 47},
		{"TypeTSIG", impl.TypeTSIG, 250},
		{"TypeIXFR", impl.TypeIXFR, 251},
		{"TypeAXFR", impl.TypeAXFR, 252},
		{"TypeANY", impl.TypeANY, 255},
		{"TypeCAA", impl.TypeCAA, 257},
		{"ClassIN", impl.ClassIN, 1},
		{"ClassCH", impl.ClassCH, 3},
		{"ClassNONE", impl.ClassNONE, 254},
		{"ClassANY", impl.ClassANY, 255},
	} {
		if c.got != c.want {
			t.Errorf("%s = %d, not %d", c.name, c.got, c.want)
		}
	}
}
