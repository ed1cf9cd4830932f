package decompressor_test

import (
	"radiolink/api"
	"radiolink/check"
	"radiolink/flow"
	"radiolink/format"
	"radiolink/packet"
)

// The model follows the chapter sentence by sentence: a compressed packet goes through the eight steps in one function.

func between(x, least, most int) bool { return least <= x && x <= most }

func modelContext(c api.Receiving) bool {
	if !between(c.Errors, 0, 2) {
		return false
	}
	c.Errors = 0
	if c == (api.Receiving{}) {
		return true
	}
	if !between(c.State, 1, 2) || !packet.Valid(c.Last) {
		return false
	}
	if c.Last.Kind == api.KindUdp {
		return c.Dynamic == api.Dynamic{}
	}
	return between(c.Dynamic.Stride, 0, 65535) && between(c.Dynamic.Follow, 0, 1)
}

func modelValid(d api.Decompressor) bool {
	if !between(d.Mode, 1, 3) || len(d.Contexts) != 16 {
		return false
	}
	for _, c := range d.Contexts {
		if !modelContext(c) {
			return false
		}
	}
	return true
}

// meant returns the number of a width that k low bits mean: the first one from the least that may be meant which has these bits.
func meant(width, reference, k, low int) int {
	first := reference - (1<<(k-3) - 1)
	return (first + (low-first)&(1<<k-1)) & (1<<width - 1)
}

// modelClone returns a copy in memory of its own.
func modelClone(d api.Decompressor) api.Decompressor {
	d.Contexts = append([]api.Receiving{}, d.Contexts...)
	return d
}

func modelTell(index, kind, number int) []api.Feedback {
	return []api.Feedback{{Context: index, Kind: kind, Number: number}}
}

func modelDecompress(d api.Decompressor, b []byte) (api.Decompressor, []byte, []api.Feedback, api.Errno) {
	if !modelValid(d) {
		return api.Decompressor{}, nil, nil, api.ErrInvalid
	}
	next := modelClone(d)
	at, f, e := format.Peek(b)
	if e != api.OK { // 1.
		return next, nil, nil, e
	}
	if f == api.FormatRaw { // 2.
		if !between(len(b)-1, 1, 1500) {
			return next, nil, nil, api.ErrForm
		}
		return next, append([]byte{}, b[1:]...), nil, api.OK
	}
	c := &next.Contexts[at]
	answers := d.Mode != api.ModeOneWay
	if f <= api.FormatLong && c.State != api.StateFull || f == api.FormatRefresh && c.State == api.StateNone { // 3.
		switch {
		case !answers:
			return next, nil, nil, api.ErrContext
		case c.State == api.StateNone:
			return next, nil, modelTell(at, api.StaticNack, 0), api.ErrContext
		}
		return next, nil, modelTell(at, api.Nack, flow.Number(c.Last)), api.ErrContext
	}
	s, e := format.Decode(b, c.Last.Kind, c.Last.Check != 0)
	if e != api.OK { // 4.
		return next, nil, nil, e
	}
	h := modelHeader(*c, s, 0) // 5.
	if !modelFits(h, s) && f == api.FormatTiny && d.Mode != api.ModeReliable {
		h = modelHeader(*c, s, 16) // 6.
	}
	if !modelFits(h, s) {
		back := modelFail(c, at) // 8.
		if !answers {
			back = nil
		}
		return next, nil, back, api.ErrCheck
	}
	out, e := packet.Build(h, s.Payload) // 7.
	if e != api.OK {
		return next, nil, nil, e
	}
	c.State, c.Last, c.Errors = api.StateFull, h, 0
	if f >= api.FormatRefresh {
		c.Dynamic = s.Dynamic
	}
	if d.Mode == api.ModeReliable || d.Mode == api.ModeOptimistic && f >= api.FormatRefresh {
		return next, out, modelTell(at, api.Ack, flow.Number(h)), api.OK
	}
	return next, out, nil, api.OK
}

func modelFits(h api.Header, s api.Small) bool {
	width := map[int]int{api.FormatTiny: 3, api.FormatShort: 7, api.FormatLong: 8, api.FormatRefresh: 8, api.FormatFull: 8}[s.Format]
	sum, _ := check.Sum(width, packet.Head(h))
	return sum == s.Check
}

func modelHeader(c api.Receiving, s api.Small, more int) api.Header {
	rtp := c.Last.Kind == api.KindRtp
	number := flow.Number(c.Last)
	predict := func(n int) api.Header {
		h := flow.Predict(c.Dynamic, c.Last, (n+more)%65536)
		h.Check = s.Udp
		return h
	}
	switch {
	case s.Format == api.FormatFull:
		return s.Header
	case s.Format == api.FormatRefresh:
		h := s.Header
		h.From, h.To, h.FromPort, h.ToPort, h.Source = c.Last.From, c.Last.To, c.Last.FromPort, c.Last.ToPort, c.Last.Source
		return h
	case s.Format == api.FormatTiny:
		return predict(meant(16, number, 4, s.Number))
	case s.Format == api.FormatShort && rtp:
		h := predict(meant(16, number, 5, s.Number))
		h.Marker, h.Time = s.Marker, meant(32, c.Last.Time, 16, s.Time)
		return h
	case s.Format == api.FormatShort:
		return predict(meant(16, number, 5, s.Number))
	case rtp:
		h := predict(meant(16, number, 8, s.Number))
		h.Marker, h.Time, h.Id = s.Marker, s.Time, s.Id
		return h
	}
	return predict(s.Number)
}

// modelFail counts an error, and returns the feedback about it.
func modelFail(c *api.Receiving, at int) []api.Feedback {
	c.Errors++
	if c.Errors == 3 {
		c.Errors = 0
		if c.State == api.StateStatic {
			*c = api.Receiving{}
		}
		if c.State == api.StateFull {
			c.State = api.StateStatic
		}
	}
	if c.State == api.StateNone {
		return modelTell(at, api.StaticNack, 0)
	}
	return modelTell(at, api.Nack, flow.Number(c.Last))
}
