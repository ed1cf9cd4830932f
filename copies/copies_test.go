package copies_test

import (
	"reflect"
	"testing"

	"radiolink/api"
	"radiolink/copies"
)

func sample() api.Compressor {
	return api.Compressor{Mode: api.ModeReliable, Width: 3, Contexts: []api.Sending{
		{},
		{Active: true, Full: 1, Refresh: 2, Series: 3, Since: 4, Long: 5, Dynamic: api.Dynamic{Stride: 6, Follow: 7}, References: []api.Header{{Id: 8}, {Id: 9}}},
		{References: []api.Header{{Id: 10}}},
	}}
}

func TestCompressor(t *testing.T) {
	c := sample()
	got := copies.Compressor(c)
	if !reflect.DeepEqual(got, c) || !reflect.DeepEqual(c, sample()) {
		t.Errorf("%+v of %+v", got, c)
	}
	got.Contexts[1].References[1].Id++
	got.Contexts[2].References[0] = api.Header{}
	got.Contexts[0].Active = true
	if !reflect.DeepEqual(c, sample()) {
		t.Errorf("a change of the copy makes %+v", c)
	}
	if got := copies.Compressor(api.Compressor{}); !reflect.DeepEqual(got, api.Compressor{}) {
		t.Errorf("of nothing: %+v", got)
	}
}
