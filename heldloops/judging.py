"""Judging code: whether it makes the fabric of a chart."""

from heldloops.charts import fabric_of
from heldloops.errors import MachineFault
from heldloops.fabrics import difference
from heldloops.machine import fabric_of_code


def judge(code, chart, width, reach):
    """None if the code fits the chart, otherwise its fault or the first difference of the fabrics."""
    try:
        fabric = fabric_of_code(code, width, reach)
    except MachineFault as fault:
        return ("fault", fault.index)
    return difference(fabric, fabric_of(chart))
