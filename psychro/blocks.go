package psychro

import (
	"plenum/api"
	"plenum/block"
)

// Eval returns the output of the block enthalpy or dewpoint.
func Eval(name string, params []int64, in []api.Value) (api.Value, api.Errno) {
	property, known := propertyOf(name)
	if !known {
		return api.Value{}, api.ErrUnknown
	}
	d, _ := block.Find(name)
	if len(params) != len(d.Params) || len(in) != len(d.Inputs) {
		return api.Value{}, api.ErrInvalid
	}
	temperature, humidity := in[0], in[1]
	if temperature.Kind != api.Analog || humidity.Kind != api.Analog {
		return api.Value{}, api.ErrType
	}
	return api.Value{Kind: api.Analog, N: property(temperature.N, humidity.N)}, api.OK
}

// propertyOf returns what a block computes of a temperature and a relative humidity, or false if it is none of this layer.
func propertyOf(name string) (func(temperature, humidity int64) int64, bool) {
	switch name {
	case "enthalpy":
		return enthalpyOf, true
	case "dewpoint":
		return dewOf, true
	}
	return nil, false
}

// enthalpyOf returns the enthalpy of air of a temperature and a relative humidity.
func enthalpyOf(temperature, humidity int64) int64 {
	return Enthalpy(temperature, Ratio(temperature, humidity))
}

// dewOf returns the dew point of air of a temperature and a relative humidity.
func dewOf(temperature, humidity int64) int64 { return Dew(Ratio(temperature, humidity)) }
