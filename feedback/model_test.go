package feedback_test

import (
	"fmt"
	"strconv"

	"radiolink/api"
	"radiolink/compressor"
	"radiolink/copies"
)

// The model follows the chapter sentence by sentence, with bytes as texts of bits.

func between(x, least, most int) bool { return least <= x && x <= most }

func modelValid(f api.Feedback) bool {
	return between(f.Context, 0, 15) && between(f.Kind, 0, 2) && between(f.Number, 0, 65535)
}

// modelCheck returns the check value of width 8 of bits, in bits: the rest of a division by 100000111, with the first eight bits turned over.
func modelCheck(text string) string {
	work := []byte(text + "00000000")
	for i := range 8 {
		work[i] ^= 1
	}
	for i := range text {
		if work[i] == '1' {
			for k, p := range []byte("100000111") {
				work[i+k] ^= p & 1
			}
		}
	}
	return string(work[len(text):])
}

func modelBits(f api.Feedback) string {
	text := ""
	if f.Context >= 1 {
		text = fmt.Sprintf("1110%04b", f.Context)
	}
	text += fmt.Sprintf("111100%02b%016b", f.Kind, f.Number)
	return text + modelCheck(text)
}

func modelEncode(f api.Feedback) ([]byte, api.Errno) {
	if !modelValid(f) {
		return nil, api.ErrInvalid
	}
	b := []byte{}
	for text := modelBits(f); text != ""; text = text[8:] {
		x, _ := strconv.ParseUint(text[:8], 2, 8)
		b = append(b, byte(x))
	}
	return b, api.OK
}

func modelDecode(b []byte) (api.Feedback, api.Errno) {
	if len(b) == 0 {
		return api.Feedback{}, api.ErrEnd
	}
	asked, context := 4, 0
	if between(int(b[0]), 0xe0, 0xef) {
		asked, context = 5, int(b[0])-0xe0
	}
	if len(b) < asked {
		return api.Feedback{}, api.ErrEnd
	}
	if len(b) > asked || b[0] == 0xe0 || !between(int(b[asked-4]), 0xf0, 0xf2) {
		return api.Feedback{}, api.ErrForm
	}
	f := api.Feedback{Context: context, Kind: int(b[asked-4]) - 0xf0, Number: 256*int(b[asked-3]) + int(b[asked-2])}
	text := modelBits(f)
	if text[len(text)-8:] != fmt.Sprintf("%08b", b[asked-1]) {
		return api.Feedback{}, api.ErrCheck
	}
	return f, api.OK
}

func modelNumber(h api.Header) int {
	if h.Kind == api.KindRtp {
		return h.Seq
	}
	return h.Id
}

func modelApply(c api.Compressor, f api.Feedback) (api.Compressor, api.Errno) {
	switch {
	case !compressor.Valid(c) || !modelValid(f):
		return api.Compressor{}, api.ErrInvalid
	case c.Mode == api.ModeOneWay:
		return api.Compressor{}, api.ErrState
	case !c.Contexts[f.Context].Active:
		return api.Compressor{}, api.ErrContext
	}
	next := copies.Compressor(c)
	s := &next.Contexts[f.Context]
	n := len(s.References)
	switch {
	case f.Kind == api.StaticNack:
		s.Full, s.Refresh, s.Series = c.Width, 0, n
	case f.Kind == api.Nack && s.Full > 0:
		s.Full, s.Series = c.Width, n
	case f.Kind == api.Nack:
		s.Refresh, s.Series = c.Width, n
	default:
		modelAck(c.Mode, s, f.Number)
	}
	return next, api.OK
}

// modelAck forgets one reference after the other until the acknowledged one is the first.
func modelAck(mode int, s *api.Sending, number int) {
	k := -1
	for i, r := range s.References {
		if modelNumber(r) == number {
			k = i
		}
	}
	if k >= 0 && k >= s.Series {
		s.Full, s.Refresh = 0, 0
	}
	for ; mode == api.ModeReliable && k > 0; k-- {
		s.References = s.References[1:]
		if s.Series > 0 {
			s.Series--
		}
	}
}
